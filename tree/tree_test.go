package tree

import (
	"errors"
	"fmt"
	"math"
	"math/rand"
	"slices"
	"strconv"
	"strings"
	"testing"
	"unsafe"

	"becket/api"
	"becket/chunk"
	"becket/route"
)

// itself is a place of an error that has none.
const itself = -1

// isFault tells whether err is the code itself, or a Spot of it at a place; whether there is none, if the code is 0.
func isFault(err error, at int, code api.Code) bool {
	if code == 0 {
		return err == nil
	}
	if at == itself {
		return err == code
	}
	spot, ok := err.(*api.Spot)
	return ok && spot != nil && spot.At == at && spot.Err == code && errors.Is(err, code)
}

func text(char string, n int) string { return strings.Repeat(char, n) }

// entry is one whose Size is its chunks' together.
func entry(path string, keys ...string) api.Entry {
	return api.Entry{Path: path, Size: len(strings.Join(keys, "")), Keys: keys}
}

// sized is an entry of any Size.
func sized(path string, size int, keys ...string) api.Entry {
	return api.Entry{Path: path, Size: size, Keys: keys}
}

// entries have no chunks.
func entries(paths ...string) []api.Entry {
	var l []api.Entry
	for _, path := range paths {
		l = append(l, entry(path))
	}
	return l
}

// many are n entries that rise.
func many(n int) []api.Entry {
	var l []api.Entry
	for i := range n {
		l = append(l, entry("f"+strconv.Itoa(1000+i), "x"))
	}
	return l
}

func sameEntry(a, b api.Entry) bool {
	return a.Path == b.Path && a.Size == b.Size && slices.Equal(a.Keys, b.Keys)
}

func sameTree(a, b []api.Entry) bool { return slices.EqualFunc(a, b, sameEntry) }

// show tells entries in a line that isn't too long.
func show(l ...api.Entry) string {
	var line strings.Builder
	for _, e := range l {
		line.WriteString(fmt.Sprintf("{%q %d %q}", e.Path, e.Size, e.Keys))
	}
	return line.String()[:min(line.Len(), 300)]
}

func isZero(e api.Entry) bool { return e.Path == "" && e.Size == 0 && len(e.Keys) == 0 }

type treeCase struct {
	l    []api.Entry
	at   int
	code api.Code
}

// trees are entries of which Check tells nothing.
func trees() [][]api.Entry {
	return [][]api.Entry{
		nil,
		{},
		{entry("a")},
		{entry("a", "x")},
		{entry("a/b/c/d/e/f/g/h", "x", "x")},
		{entry("a", "xy", "z"), entry("b/c", "z"), entry("b/d"), entry("c", "\x00", "\xff\xfe")},
		// How many there may be.
		many(31),
		many(32),
		// A chunk of one byte, and of MaxChunk.
		{entry("a", "x", text("y", 64), "x")},
		{entry("a", text("\xff", 64))},
		// Size as MaxFile.
		{entry("a", slices.Repeat([]string{text("y", 64)}, 16)...)},
		{entry("a", slices.Repeat([]string{"y"}, 1024)...)},
		{entry("a", append(slices.Repeat([]string{text("y", 63)}, 16), text("z", 16))...)},
		{entry("a", slices.Repeat([]string{"y"}, 1024)...), entry("b", slices.Repeat([]string{"y"}, 1024)...)},
		// Chunks that aren't what bytes would be cut to: a short one ahead of a long one, bytes of a character apart.
		{entry("a", "x", "xyz", "x")},
		{entry("a", "\xc3", "\xa9")},
		// What begins as another path does, and isn't under it.
		entries("a", "a-", "a-b", "a.b", "a0", "aa", "ab", "b"),
		entries("a", "a-b/c", "a-c", "a.", "a0", "a_", "aa/b", "aé"),
		entries("a-/b", "a.b/c", "a/b", "a0"),
		entries("a/b", "a/b-c", "a/b.c/d", "a/bb", "a/bc"),
		// Byte by byte: - and . are below /, digits and letters above; é above all of them.
		entries("-", ".a", "0", "9", "_", "a", "z", "é", "日", "\U0001f4be"),
		entries("a/-", "a/0", "a/_", "a/a", "a/é"),
		// The runes ffff and 10000 rise in bytes, too, where 16-bit words would fall.
		entries("\uffff", "\U00010000"),
	}
}

// P4.1: nothing of a tree.
func TestCheckOfTrees(t *testing.T) {
	for _, l := range trees() {
		if err := Check(l); err != nil {
			t.Errorf("Check(%s) = %v", show(l...), err)
		}
	}
}

// pathFaults are entries at fault by their paths.
func pathFaults() []treeCase {
	return []treeCase{
		// What is no path.
		{entries(""), 0, api.ErrForm},
		{entries("A"), 0, api.ErrForm},
		{entries("/a"), 0, api.ErrForm},
		{entries("a/"), 0, api.ErrForm},
		{entries("a//b"), 0, api.ErrForm},
		{entries("."), 0, api.ErrForm},
		{entries("a/.."), 0, api.ErrForm},
		{entries("a\xff"), 0, api.ErrForm},
		{entries("\ufffd"), 0, api.ErrForm},
		{entries(text("a", 17)), 0, api.ErrForm},
		{entries("a/a/a/a/a/a/a/a/a"), 0, api.ErrForm},
		{entries("a", "b", ""), 2, api.ErrForm},
		{entries("a", "a/"), 1, api.ErrForm},
		// The same path, and one that falls.
		{entries("a", "a"), 1, api.ErrTwice},
		{entries("b", "a"), 1, api.ErrTwice},
		{entries("a", "c", "b"), 2, api.ErrTwice},
		{entries("b", "c", "a"), 2, api.ErrTwice},
		{entries("a", "b", "c", "c"), 3, api.ErrTwice},
		{entries("a/b", "a/b"), 1, api.ErrTwice},
		{entries("aa", "a"), 1, api.ErrTwice},
		{entries("a/b", "a"), 1, api.ErrTwice},
		{entries("a/b", "a-b"), 1, api.ErrTwice},
		{entries("a0", "a/b"), 1, api.ErrTwice},
		{entries("é", "z"), 1, api.ErrTwice},
		{entries("\U00010000", "\uffff"), 1, api.ErrTwice},
		// It rises above the one right ahead, yet not above the one ahead of that: that one is told.
		{entries("b", "a", "c"), 1, api.ErrTwice},
		// Under the one right ahead, and under one further ahead.
		{entries("a", "a/b"), 1, api.ErrTwice},
		{entries("a", "a/b/c/d"), 1, api.ErrTwice},
		{entries("a/b", "a/b/c"), 1, api.ErrTwice},
		{entries("é", "é/a"), 1, api.ErrTwice},
		{entries("a", "a-b", "a/c"), 2, api.ErrTwice},
		{entries("a", "a-b", "a.c", "a/c"), 3, api.ErrTwice},
		{entries("a", "a-b/c", "a-b/d", "a.c", "a/c/d"), 4, api.ErrTwice},
		{entries("0", "a", "a-b", "a/c"), 3, api.ErrTwice},
		{entries("0", "a/b", "a/b-", "a/b.c", "a/b/c", "b"), 4, api.ErrTwice},
		{append(append(many(29), entries("g", "g-")...), entry("g/h")), 31, api.ErrTwice},
	}
}

// chunkFaults are entries at fault by their chunks, or by Size.
func chunkFaults() []treeCase {
	full := slices.Repeat([]string{text("y", 64)}, 16)
	return []treeCase{
		// A chunk of no bytes, and of one more than MaxChunk.
		{[]api.Entry{entry("a", "")}, 0, api.ErrArg},
		{[]api.Entry{entry("a", "x", "")}, 0, api.ErrArg},
		{[]api.Entry{entry("a", "", "x")}, 0, api.ErrArg},
		{[]api.Entry{entry("a", "x", "", "x")}, 0, api.ErrArg},
		{[]api.Entry{entry("a", text("y", 65))}, 0, api.ErrArg},
		{[]api.Entry{entry("a", text("y", 64), text("y", 65))}, 0, api.ErrArg},
		{[]api.Entry{entry("a", text("y", 65), "y")}, 0, api.ErrArg},
		{[]api.Entry{entry("a", text("y", 1024))}, 0, api.ErrArg},
		{[]api.Entry{entry("a", text("é", 32)+"y")}, 0, api.ErrArg},
		{[]api.Entry{entry("a", text("y", 1<<20))}, 0, api.ErrArg},
		// Size above MaxFile.
		{[]api.Entry{entry("a", append(slices.Clone(full), "y")...)}, 0, api.ErrArg},
		{[]api.Entry{entry("a", slices.Repeat([]string{"y"}, 1025)...)}, 0, api.ErrArg},
		{[]api.Entry{entry("a", slices.Repeat([]string{text("y", 64)}, 17)...)}, 0, api.ErrArg},
		{[]api.Entry{entry("a", slices.Repeat([]string{"y"}, 1<<16)...)}, 0, api.ErrArg},
		{[]api.Entry{sized("a", 1025, full...)}, 0, api.ErrArg},
		{[]api.Entry{sized("a", 1025)}, 0, api.ErrArg},
		{[]api.Entry{sized("a", math.MaxInt)}, 0, api.ErrArg},
		// Size that isn't the chunks' together.
		{[]api.Entry{sized("a", 1)}, 0, api.ErrArg},
		{[]api.Entry{sized("a", 0, "x")}, 0, api.ErrArg},
		{[]api.Entry{sized("a", 2, "x")}, 0, api.ErrArg},
		{[]api.Entry{sized("a", 2, "xyz")}, 0, api.ErrArg},
		{[]api.Entry{sized("a", 2, "xyz", "x")}, 0, api.ErrArg},
		{[]api.Entry{sized("a", 3, "xyz", "x")}, 0, api.ErrArg},
		{[]api.Entry{sized("a", 1, "xyz", "x")}, 0, api.ErrArg},
		{[]api.Entry{sized("a", 1024)}, 0, api.ErrArg},
		{[]api.Entry{sized("a", 1023, full...)}, 0, api.ErrArg},
		{[]api.Entry{sized("a", 1024, append(slices.Clone(full), "y")...)}, 0, api.ErrArg},
		{[]api.Entry{sized("a", 1024, full[:15]...)}, 0, api.ErrArg},
		{[]api.Entry{sized("a", 1, "é")}, 0, api.ErrArg},
		// Size below 0.
		{[]api.Entry{sized("a", -1)}, 0, api.ErrArg},
		{[]api.Entry{sized("a", -1, "x")}, 0, api.ErrArg},
		{[]api.Entry{sized("a", math.MinInt)}, 0, api.ErrArg},
		{[]api.Entry{sized("a", math.MinInt, full...)}, 0, api.ErrArg},
		// What would be right, if only its lowest bits were looked at.
		{[]api.Entry{sized("a", 1<<16+1, "x")}, 0, api.ErrArg},
		// At a later place.
		{[]api.Entry{entry("a", "x"), entry("b", "x"), sized("c", 2, "x")}, 2, api.ErrArg},
		{append(many(31), entry("g", "")), 31, api.ErrArg},
	}
}

// severalFaults have more than one thing at fault: which one is told, and where.
func severalFaults() []treeCase {
	return []treeCase{
		// Too many, and the first one at fault, or the last.
		{many(33), itself, api.ErrLarge},
		{many(1000), itself, api.ErrLarge},
		{slices.Repeat(entries(""), 33), itself, api.ErrLarge},
		{slices.Repeat(entries("a"), 33), itself, api.ErrLarge},
		{append([]api.Entry{sized("A", -1, "")}, many(32)...), itself, api.ErrLarge},
		{append(many(32), entry("")), itself, api.ErrLarge},
		{append(many(32), entry("a")), itself, api.ErrLarge},
		// In one entry.
		{[]api.Entry{sized("A", -1, "")}, 0, api.ErrForm},
		{[]api.Entry{entry("a", "x"), sized("A", -1, "")}, 1, api.ErrForm},
		{[]api.Entry{entry("a", "x"), sized("a/", -1, "")}, 1, api.ErrForm},
		{[]api.Entry{entry("a", "x"), entry("", "x")}, 1, api.ErrForm},
		{[]api.Entry{entry("a", "x"), sized("a", 2, "x")}, 1, api.ErrTwice},
		{[]api.Entry{entry("b", "x"), entry("a", "")}, 1, api.ErrTwice},
		{[]api.Entry{entry("a", "x"), sized("a/b", -1)}, 1, api.ErrTwice},
		{[]api.Entry{entry("a", "x"), entry("a-b", "x"), entry("a/c", text("x", 65))}, 2, api.ErrTwice},
		// In several: the first one at fault, whatever it is.
		{[]api.Entry{sized("a", 1), entry("a"), entry("A")}, 0, api.ErrArg},
		{[]api.Entry{entry("a"), sized("b", 1), entry("A"), entry("a")}, 1, api.ErrArg},
		{[]api.Entry{entry("a"), entry("a/b"), entry("A"), sized("b", 1)}, 1, api.ErrTwice},
		{[]api.Entry{entry("A"), entry("A"), sized("b", 1)}, 0, api.ErrForm},
		{[]api.Entry{entry("a"), entry("A"), entry("a"), sized("b", 1)}, 1, api.ErrForm},
		{[]api.Entry{sized("a", 1), entry("a/b")}, 0, api.ErrArg},
		{[]api.Entry{entry("b"), sized("c", -1, "", ""), entry("a")}, 1, api.ErrArg},
	}
}

func noTrees() []treeCase {
	return slices.Concat(pathFaults(), chunkFaults(), severalFaults())
}

// P4.1, R1, P1: the first fault, itself or at its place.
func TestCheckOfNoTrees(t *testing.T) {
	for _, c := range noTrees() {
		if err := Check(c.l); !isFault(err, c.at, c.code) {
			t.Errorf("Check(%s) = %v, not %v at %d", show(c.l...), err, c.code, c.at)
		}
	}
}

// P4.3, R3: Check's error of entries that are no tree, whatever else is at fault, and nothing beside it.
func TestNoTrees(t *testing.T) {
	for _, c := range noTrees() {
		for _, chunks := range [][]string{nil, {"x"}, {"x", "y", text("y", 64), ""}} {
			if got, err := Restore(c.l, chunks); !isFault(err, c.at, c.code) || len(got) != 0 {
				t.Errorf("Restore(%s, %.99q) = %.99q, %v", show(c.l...), chunks, got, err)
			}
		}
		for _, path := range []string{"a", "b", "c/d", "f1000", "", "A"} {
			if e, err := Find(c.l, path); !isFault(err, c.at, c.code) || !isZero(e) {
				t.Errorf("Find(%s, %q) = %s, %v", show(c.l...), path, show(e), err)
			}
		}
		for _, dir := range []string{"", "a", "a/b", "A"} {
			if paths := Below(c.l, dir); len(paths) != 0 {
				t.Errorf("Below(%s, %q) = %q", show(c.l...), dir, paths)
			}
		}
	}
}

var byTwo = api.Cut{Min: 2, Max: 2, Mask: 255}

func file(path, bytes string) api.File { return api.File{Path: path, Bytes: bytes} }

// files have no bytes.
func files(paths ...string) []api.File {
	var l []api.File
	for _, path := range paths {
		l = append(l, file(path, ""))
	}
	return l
}

func manyFiles(n int) []api.File {
	var l []api.File
	for _, e := range many(n) {
		l = append(l, file(e.Path, "x"))
	}
	return l
}

// P4.2: the tree of all, each one's bytes cut.
func TestBuild(t *testing.T) {
	for _, c := range []struct {
		files []api.File
		cut   api.Cut
		want  []api.Entry
	}{
		{nil, byTwo, nil},
		{[]api.File{}, byTwo, nil},
		{[]api.File{file("a", "xyz")}, byTwo, []api.Entry{sized("a", 3, "xy", "z")}},
		{[]api.File{file("a", "")}, byTwo, []api.Entry{sized("a", 0)}},
		{[]api.File{file("a/b/c", "x")}, byTwo, []api.Entry{sized("a/b/c", 1, "x")}},
		{
			[]api.File{file("b/c", "xyz"), file("a", "")}, byTwo,
			[]api.Entry{sized("a", 0), sized("b/c", 3, "xy", "z")},
		},
		{
			[]api.File{file("c", "xyxy"), file("b", "yx"), file("a", "xyxy")}, byTwo,
			[]api.Entry{sized("a", 4, "xy", "xy"), sized("b", 2, "yx"), sized("c", 4, "xy", "xy")},
		},
		// The cut is what is handed in.
		{[]api.File{file("a", "abc")}, api.Cut{Min: 1, Max: 1}, []api.Entry{sized("a", 3, "a", "b", "c")}},
		{[]api.File{file("a", "\x01\xe0\x01")}, api.Cut{Min: 2, Max: 3, Mask: 255}, []api.Entry{sized("a", 3, "\x01\xe0", "\x01")}},
		{[]api.File{file("a", "\xff\xff\xff")}, api.Cut{Min: 2, Max: 3, Mask: 255}, []api.Entry{sized("a", 3, "\xff\xff\xff")}},
		{[]api.File{file("a", text("x", 65))}, api.Cut{Min: 64, Max: 64}, []api.Entry{sized("a", 65, text("x", 64), "x")}},
		// Bytes that are one character, and are cut apart.
		{[]api.File{file("é", "é日")}, byTwo, []api.Entry{sized("é", 5, "é", "\xe6\x97", "\xa5")}},
		// MaxFile bytes.
		{
			[]api.File{file("a", text("x", 1024))}, api.Cut{Min: 64, Max: 64},
			[]api.Entry{sized("a", 1024, slices.Repeat([]string{text("x", 64)}, 16)...)},
		},
		{
			[]api.File{file("a", text("x", 1024))}, api.Cut{Min: 1, Max: 1},
			[]api.Entry{sized("a", 1024, slices.Repeat([]string{"x"}, 1024)...)},
		},
		// What begins as another path does, and isn't under it; sorted byte by byte.
		{files("a", "a0", "a-b", "aa", "a.b"), byTwo, entries("a", "a-b", "a.b", "a0", "aa")},
		{files("a0", "a/b", "a-b"), byTwo, entries("a-b", "a/b", "a0")},
		{files("b/c", "b/a", "b-/a", "a/c"), byTwo, entries("a/c", "b-/a", "b/a", "b/c")},
		{files("é", "z", "\U00010000", "\uffff", "-"), byTwo, entries("-", "z", "é", "\uffff", "\U00010000")},
		// How many there may be.
		{manyFiles(31), byTwo, many(31)},
		{manyFiles(32), byTwo, many(32)},
	} {
		got, err := Build(c.files, c.cut)
		if err != nil || !sameTree(got, c.want) {
			t.Errorf("Build(%.200q, %+v) = %s, %v, not %s", c.files, c.cut, show(got...), err, show(c.want...))
		}
		if err := Check(got); err != nil {
			t.Errorf("Build(%.200q, %+v) tells no tree: %v", c.files, c.cut, err)
		}
	}
}

type fileCase struct {
	files []api.File
	at    int
	code  api.Code
}

// fileFaults have one thing at fault.
func fileFaults() []fileCase {
	return []fileCase{
		// What is no path.
		{files(""), 0, api.ErrForm},
		{files("A"), 0, api.ErrForm},
		{files("a/"), 0, api.ErrForm},
		{files("/a"), 0, api.ErrForm},
		{files("a//b"), 0, api.ErrForm},
		{files("a/."), 0, api.ErrForm},
		{files("\xff"), 0, api.ErrForm},
		{files("b", "a", text("c", 17)), 2, api.ErrForm},
		{files("a", "a/a/a/a/a/a/a/a/"), 1, api.ErrForm},
		// Too many bytes.
		{[]api.File{file("a", text("x", 1025))}, 0, api.ErrLarge},
		{[]api.File{file("a", text("x", 1<<20))}, 0, api.ErrLarge},
		{[]api.File{file("a", text("é", 512)+"x")}, 0, api.ErrLarge},
		{[]api.File{file("b", "x"), file("a", text("x", 1024)), file("c", text("x", 1025))}, 2, api.ErrLarge},
		// The path of a file ahead, right ahead or further.
		{files("a", "a"), 1, api.ErrTwice},
		{files("a/b", "a/b"), 1, api.ErrTwice},
		{[]api.File{file("a", "x"), file("a", "y")}, 1, api.ErrTwice},
		{files("b", "a", "c", "b"), 3, api.ErrTwice},
		{files("c", "b", "a", "b", "c"), 3, api.ErrTwice},
		// Under a file ahead, and a file ahead under it.
		{files("a", "a/b"), 1, api.ErrTwice},
		{files("a/b", "a"), 1, api.ErrTwice},
		{files("b/c", "b"), 1, api.ErrTwice},
		{files("a", "a/b/c/d"), 1, api.ErrTwice},
		{files("a/b/c/d", "a"), 1, api.ErrTwice},
		{files("a/b/c/d", "a/b"), 1, api.ErrTwice},
		{files("a", "a-b", "a/c"), 2, api.ErrTwice},
		{files("a/c", "a-b", "a"), 2, api.ErrTwice},
		{files("a/c", "x", "0", "a/b", "y", "a/c/d", "a"), 5, api.ErrTwice},
		{append(manyFiles(31), file("f1000/a", "")), 31, api.ErrTwice},
	}
}

// severalFileFaults have more than one thing at fault: which one is told, and where.
func severalFileFaults() []fileCase {
	long := text("x", 1025)
	return []fileCase{
		// Too many files.
		{manyFiles(33), itself, api.ErrLarge},
		{manyFiles(1000), itself, api.ErrLarge},
		{slices.Repeat(files("a"), 33), itself, api.ErrLarge},
		{append([]api.File{file("A", long)}, manyFiles(32)...), itself, api.ErrLarge},
		{append(manyFiles(32), file("", long)), itself, api.ErrLarge},
		// In one file.
		{[]api.File{file("A", long)}, 0, api.ErrForm},
		{[]api.File{file("a", ""), file("a/", long)}, 1, api.ErrForm},
		{[]api.File{file("a", ""), file("a", long)}, 1, api.ErrLarge},
		{[]api.File{file("a", ""), file("a/b", long)}, 1, api.ErrLarge},
		{[]api.File{file("a/b", ""), file("a", long)}, 1, api.ErrLarge},
		// In several: the first one at fault as they are handed in, not as they are sorted.
		{[]api.File{file("a", long), file("A", ""), file("a", "")}, 0, api.ErrLarge},
		{[]api.File{file("a", ""), file("a", ""), file("A", ""), file("b", long)}, 1, api.ErrTwice},
		{[]api.File{file("c", ""), file("B", ""), file("a", long), file("c", "")}, 1, api.ErrForm},
		{[]api.File{file("c", ""), file("c", ""), file("a", ""), file("a", "")}, 1, api.ErrTwice},
		{[]api.File{file("c", long), file("b", long), file("a", long)}, 0, api.ErrLarge},
		{[]api.File{file("c", ""), file("b/c", ""), file("b", ""), file("A", "")}, 2, api.ErrTwice},
	}
}

// P4.2, R1, R3, P1: the first fault, itself or at its place, and nothing beside it.
func TestBuildOfNoFiles(t *testing.T) {
	for _, c := range slices.Concat(fileFaults(), severalFileFaults()) {
		if l, err := Build(c.files, byTwo); !isFault(err, c.at, c.code) || len(l) != 0 {
			t.Errorf("Build(%.200q) = %s, %v, not %v at %d", c.files, show(l...), err, c.code, c.at)
		}
	}
}

// P4.2, R1, R3, P1: ErrArg itself of a Cut that may not be, whatever the files are.
func TestBuildByWhatMayNotBe(t *testing.T) {
	for _, c := range []api.Cut{
		{}, {Min: 0, Max: 2, Mask: 1}, {Min: 3, Max: 2, Mask: 1}, {Min: 1, Max: 65}, {Min: 65, Max: 65},
		{Min: 1, Max: 2, Mask: -1}, {Min: 1, Max: 2, Mask: 256}, {Min: math.MinInt, Max: math.MaxInt, Mask: math.MaxInt},
	} {
		for _, handed := range [][]api.File{
			nil, {}, {file("a", "")}, {file("a", "x")}, {file("A", "x")}, {file("a", text("x", 1025))}, files("a", "a"),
			manyFiles(32), manyFiles(33), slices.Repeat(files("A"), 33),
		} {
			if l, err := Build(handed, c); err != api.ErrArg || len(l) != 0 {
				t.Errorf("Build(%.99q, %+v) = %s, %v", handed, c, show(l...), err)
			}
		}
	}
}

// P4.3: a tree's files, if all its chunks are among those handed in.
func TestRestore(t *testing.T) {
	l := []api.Entry{entry("a", "xy", "z"), entry("b/c"), entry("c", "z"), entry("d", "xy", "xy", "\x00")}
	want := []api.File{file("a", "xyz"), file("b/c", ""), file("c", "z"), file("d", "xyxy\x00")}
	for _, chunks := range [][]string{
		{"xy", "z", "\x00"},
		// In another order, more often, and more than are needed.
		{"\x00", "z", "xy"},
		{"z", "z", "\x00", "xy", "z", "\x00"},
		{"", "x", "xy", "xyz", "y", "z", "\x00", "q", text("q", 65), text("q", 5000)},
	} {
		if got, err := Restore(l, chunks); err != nil || !slices.Equal(got, want) {
			t.Errorf("Restore from %.99q: %q, %v", chunks, got, err)
		}
	}
	for _, c := range []struct {
		chunks []string
		at     int
	}{
		{nil, 0},
		{[]string{}, 0},
		{[]string{""}, 0},
		{[]string{"z", "\x00"}, 0},
		{[]string{"xy", "\x00"}, 0},
		{[]string{"xy", "z"}, 3},
		{[]string{"xy", "z", "\x01"}, 3},
		{[]string{"xy", "z", "\x00\x00"}, 3},
		// A chunk isn't a piece of another one, nor two of them together.
		{[]string{"xyz", "\x00"}, 0},
		{[]string{"x", "y", "z", "\x00"}, 0},
		{[]string{"xyz", "xyxy\x00"}, 0},
		{[]string{"XY", "z", "\x00"}, 0},
		{[]string{"yx", "z", "\x00"}, 0},
	} {
		if got, err := Restore(l, c.chunks); !isFault(err, c.at, api.ErrNone) || len(got) != 0 {
			t.Errorf("Restore from %q: %q, %v, not ErrNone at %d", c.chunks, got, err, c.at)
		}
	}
}

// P4.3: the first entry is told one of whose chunks isn't there, whichever of them.
func TestRestoreWithoutOne(t *testing.T) {
	l := []api.Entry{entry("a", "1", "2", "3"), entry("b", "2"), entry("c"), entry("d", "4", "1", "5"), entry("e", "5", "6")}
	all := []string{"1", "2", "3", "4", "5", "6"}
	for i, at := range []int{0, 0, 0, 3, 3, 4} {
		chunks := slices.Delete(slices.Clone(all), i, i+1)
		if got, err := Restore(l, chunks); !isFault(err, at, api.ErrNone) || len(got) != 0 {
			t.Errorf("Restore from %q: %q, %v, not ErrNone at %d", chunks, got, err, at)
		}
	}
	if got, err := Restore(l, all); err != nil || len(got) != 5 {
		t.Errorf("Restore from %q: %q, %v", all, got, err)
	}
}

// P4.3: no entries are no files; entries without chunks need none.
func TestRestoreOfNoChunks(t *testing.T) {
	for _, chunks := range [][]string{nil, {}, {"x"}, {""}} {
		if got, err := Restore(nil, chunks); err != nil || len(got) != 0 {
			t.Errorf("Restore of no entries: %q, %v", got, err)
		}
		if got, err := Restore(entries("a", "b/c"), chunks); err != nil || !slices.Equal(got, files("a", "b/c")) {
			t.Errorf("Restore of entries without chunks: %q, %v", got, err)
		}
	}
}

// P4.3: every tree of the table, restored from all its chunks.
func TestRestoreOfTrees(t *testing.T) {
	for _, l := range trees() {
		got, err := Restore(l, chunksOf(l))
		if err != nil || len(got) != len(l) {
			t.Fatalf("Restore(%s) = %.200q, %v", show(l...), got, err)
		}
		for i, e := range l {
			if got[i] != file(e.Path, strings.Join(e.Keys, "")) || len(got[i].Bytes) != e.Size {
				t.Errorf("Restore(%s): file %d is %.99q", show(l...), i, got[i])
			}
		}
	}
}

func chunksOf(l []api.Entry) []string {
	var chunks []string
	for _, e := range l {
		chunks = append(chunks, e.Keys...)
	}
	return chunks
}

// P4.3: a path's entry.
func TestFind(t *testing.T) {
	for _, l := range trees() {
		for _, e := range l {
			if got, err := Find(l, e.Path); err != nil || !sameEntry(got, e) {
				t.Errorf("Find(%s, %q) = %s, %v", show(l...), e.Path, show(got), err)
			}
		}
	}
}

// P4.3, R3: ErrNone itself of a path that isn't there, and of what is no path.
func TestFindOfNone(t *testing.T) {
	l := []api.Entry{entry("a", "x"), entry("a-b/c", "y"), entry("b/c/d", "z"), entry("é", "x")}
	for _, path := range []string{
		"0", "b", "b/c", "b/c/d/e", "a/b", "aa", "a-b", "a-b/", "c", "d", "z", "x",
		"", "/", "/a", "a/", "A", ".", "..", "./a", "a/../a", "\xff", "\ufffd", " a", "a ", "a\x00", "e\u0301", text("a", 1<<16),
	} {
		for _, l := range [][]api.Entry{nil, {}, l} {
			if e, err := Find(l, path); err != api.ErrNone || !isZero(e) {
				t.Errorf("Find(%s, %.99q) = %s, %v", show(l...), path, show(e), err)
			}
		}
	}
}

// P4.3: the paths under dir, in their order; all, if it is empty; none of what is no path.
func TestBelow(t *testing.T) {
	l := []api.Entry{entry("a", "x"), entry("a-b/c"), entry("a-b/d/e"), entry("b-", "y"), entry("b/a"), entry("b/c/d", "z"), entry("b/c/e"), entry("b0"), entry("é/é")}
	for _, c := range []struct {
		dir  string
		want []string
	}{
		{"", []string{"a", "a-b/c", "a-b/d/e", "b-", "b/a", "b/c/d", "b/c/e", "b0", "é/é"}},
		{"b", []string{"b/a", "b/c/d", "b/c/e"}},
		{"b/c", []string{"b/c/d", "b/c/e"}},
		{"a-b", []string{"a-b/c", "a-b/d/e"}},
		{"a-b/d", []string{"a-b/d/e"}},
		{"é", []string{"é/é"}},
		// An entry's own path, and what is under it.
		{"a", nil},
		{"b0", nil},
		{"b/c/d", nil},
		{"b/c/d/e", nil},
		// Paths that aren't there, or whose last part is only begun.
		{"c", nil},
		{"0", nil},
		{"b/d", nil},
		{"a-", nil},
		{"b/c/", nil},
		{"c/d", nil},
		// What is no path.
		{"/", nil},
		{"b/", nil},
		{"/b", nil},
		{".", nil},
		{"./b", nil},
		{"..", nil},
		{"B", nil},
		{"\xff", nil},
		{"\xc3", nil},
		{" ", nil},
		{text("b/", 9), nil},
		{text("a", 1<<16), nil},
	} {
		if got := Below(l, c.dir); !slices.Equal(got, c.want) {
			t.Errorf("Below(%.99q) = %q, not %q", c.dir, got, c.want)
		}
		for _, none := range [][]api.Entry{nil, {}} {
			if got := Below(none, c.dir); len(got) != 0 {
				t.Errorf("Below(%s, %.99q) = %q", show(none...), c.dir, got)
			}
		}
	}
	for _, l := range trees() {
		var all []string
		for _, e := range l {
			all = append(all, e.Path)
		}
		if got := Below(l, ""); !slices.Equal(got, all) {
			t.Errorf("Below(%s, ) = %.200q", show(l...), got)
		}
	}
}

// share tells whether two texts have a byte of memory in common.
func share(a, b string) bool {
	if a == "" || b == "" {
		return false
	}
	x, y := uintptr(unsafe.Pointer(unsafe.StringData(a))), uintptr(unsafe.Pointer(unsafe.StringData(b)))
	return x < y+uintptr(len(b)) && y < x+uintptr(len(a))
}

// shareAny tells whether a text of one list has memory of one of the other.
func shareAny(a, b []string) bool {
	for _, s := range a {
		for _, other := range b {
			if share(s, other) {
				return true
			}
		}
	}
	return false
}

// textsOf are all texts of entries.
func textsOf(l ...api.Entry) []string {
	var texts []string
	for _, e := range l {
		texts = append(append(texts, e.Path), e.Keys...)
	}
	return texts
}

// textsOfFiles are all texts of files.
func textsOfFiles(l ...api.File) []string {
	var texts []string
	for _, f := range l {
		texts = append(texts, f.Path, f.Bytes)
	}
	return texts
}

// someFiles are of one chunk, of several and of none; their texts are made anew by each call.
func someFiles() []api.File {
	return []api.File{
		file(strings.Clone("b/cc"), text("xyz", 5)), file(strings.Clone("aa"), text("x", 2)),
		file(strings.Clone("b/d-"), ""), file(strings.Clone("ab/é"), text("xx", 3)),
	}
}

// P4.4, R2: no text that is told has memory of what was handed in, nor of another answer.
func TestTextsAreNewMemory(t *testing.T) {
	for _, c := range []api.Cut{byTwo, {Min: 64, Max: 64}, {Min: 1, Max: 1}} {
		handed := someFiles()
		l, err := Build(handed, c)
		if err != nil || len(l) != 4 {
			t.Fatal(l, err)
		}
		if shareAny(textsOf(l...), textsOfFiles(handed...)) {
			t.Errorf("what was built by %+v has memory of the files", c)
		}
		chunks := slices.Clone(chunksOf(l))
		for i, s := range chunks {
			chunks[i] = strings.Clone(s)
		}
		got, err := Restore(l, chunks)
		if err != nil || len(got) != 4 {
			t.Fatal(got, err)
		}
		if shareAny(textsOfFiles(got...), slices.Concat(textsOf(l...), chunks)) {
			t.Errorf("what was restored by %+v has memory of entries or chunks", c)
		}
		for _, e := range l {
			found, err := Find(l, e.Path)
			if err != nil || shareAny(textsOf(found), append(textsOf(l...), e.Path)) {
				t.Errorf("the entry found of %q has memory of the entries, or %v", e.Path, err)
			}
			asked := strings.Clone(e.Path)
			if found, _ := Find(l, asked); share(found.Path, asked) {
				t.Errorf("the entry found of %q has memory of the path", e.Path)
			}
		}
		for _, dir := range []string{"", "b", "ab"} {
			if paths := Below(l, dir); len(paths) == 0 || shareAny(paths, textsOf(l...)) {
				t.Errorf("Below(%q) = %q: memory of the entries", dir, paths)
			}
		}
	}
}

// P4.4, R2: no two lists of what is told share memory: a change of one, or what is put behind it, reaches no other.
func TestListsAreNewMemory(t *testing.T) {
	handed := someFiles()
	one, _ := Build(handed, byTwo)
	two, _ := Build(handed, byTwo)
	kept := copyTree(two)
	e, _ := Find(two, "b/cc")
	paths := Below(two, "")
	restored, _ := Restore(two, chunksOf(two))
	for i := range one {
		for j := range one[i].Keys {
			one[i].Keys[j] = "q"
		}
		one[i].Keys = append(one[i].Keys, "q")
		one[i] = sized("q", 1, one[i].Keys...)
	}
	for i := range e.Keys {
		e.Keys[i] = "q"
	}
	_ = append(e.Keys, "q")
	for i := range paths {
		paths[i] = "q"
	}
	for i := range restored {
		restored[i] = file("q", "q")
	}
	if !sameTree(two, kept) {
		t.Errorf("changes of answers made %s of %s", show(two...), show(kept...))
	}
	if again, err := Build(someFiles(), byTwo); err != nil || !sameTree(again, kept) {
		t.Errorf("a change of an answer was kept: %s, %v", show(again...), err)
	}
	if !slices.Equal(handed, someFiles()) {
		t.Errorf("the files became %q", handed)
	}
	if again, err := Find(two, "b/cc"); err != nil || !sameEntry(again, kept[2]) {
		t.Errorf("a change of an entry found was kept: %s, %v", show(again), err)
	}
	for i := range two {
		two[i].Keys = append(two[i].Keys, "q")
	}
	for i := range two {
		if !slices.Equal(two[i].Keys[:len(kept[i].Keys)], kept[i].Keys) {
			t.Errorf("what was put behind another entry's chunks made %s of %s", show(two[i]), show(kept[i]))
		}
	}
}

func copyTree(l []api.Entry) []api.Entry {
	whole := slices.Clone(l)
	for i := range whole {
		whole[i].Keys = slices.Clone(whole[i].Keys)
	}
	return whole
}

// P4.4: what is handed in stays as it is, what lists have behind their ends, too.
func TestWhatIsHandedInStays(t *testing.T) {
	keys := []string{"xy", "z", "xy", "behind", "this"}
	whole := []api.Entry{entry("a", keys[:2]...), entry("b/c", keys[1:3]...), entry("c"), sized("q", 9, keys[3:]...), entry("p")}
	chunks := []string{"z", "q", "xy", "r", "a", "behind"}
	handed := []api.File{file("c", "xyz"), file("b", "x"), file("a/b", ""), file("z", "q"), file("y", "")}
	keptKeys, keptTree, keptChunks, keptFiles := slices.Clone(keys), copyTree(whole), slices.Clone(chunks), slices.Clone(handed)
	for n := range len(whole) + 1 {
		Check(whole[:n])
		Find(whole[:n], "b/c")
		Below(whole[:n], "b")
		Below(whole[:n], "")
		for m := range len(chunks) + 1 {
			Restore(whole[:n], chunks[:m])
		}
		for _, c := range []api.Cut{byTwo, {}} {
			Build(handed[:n], c)
		}
	}
	if !slices.Equal(keys, keptKeys) || !sameTree(whole, keptTree) {
		t.Errorf("%s became %s", show(keptTree...), show(whole...))
	}
	if !slices.Equal(chunks, keptChunks) || !slices.Equal(handed, keptFiles) {
		t.Errorf("%q became %q, %q %q", keptChunks, chunks, keptFiles, handed)
	}
}

// P4.4: files that come in no order stay in it, also where one of them is at fault.
func TestFilesStayInTheirOrder(t *testing.T) {
	for _, handed := range [][]api.File{
		files("c", "b", "a"), files("b", "c", "a", "b/d"), files("b", "a", "A"), files("b", "a", "b", "0"),
	} {
		kept := slices.Clone(handed)
		Build(handed, byTwo)
		if !slices.Equal(handed, kept) {
			t.Errorf("%q became %q", kept, handed)
		}
	}
}

// P4.4: nothing that is handed in is kept: what was told stays, when it changes.
func TestNothingIsKept(t *testing.T) {
	memory := []byte("a/bxyzxy")
	whole := unsafe.String(&memory[0], len(memory))
	path, bytes := whole[:3], whole[3:]
	l, err := Build([]api.File{file(path, bytes)}, byTwo)
	if err != nil {
		t.Fatal(err)
	}
	handed := []api.Entry{entry(path, bytes[:3], bytes[3:])}
	got, err := Restore(handed, []string{bytes[3:], bytes[:3]})
	if err != nil {
		t.Fatal(err)
	}
	e, err := Find(handed, path)
	if err != nil {
		t.Fatal(err)
	}
	paths := Below(handed, path[:1])
	if string(memory) != "a/bxyzxy" {
		t.Errorf("what was handed in became %q", memory)
	}
	copy(memory, "--------")
	if !sameTree(l, []api.Entry{sized("a/b", 5, "xy", "zx", "y")}) {
		t.Errorf("what was built became %s", show(l...))
	}
	if !slices.Equal(got, []api.File{file("a/b", "xyzxy")}) || !slices.Equal(paths, []string{"a/b"}) {
		t.Errorf("what was told became %q, %q", got, paths)
	}
	if !sameEntry(e, sized("a/b", 5, "xyz", "xy")) {
		t.Errorf("the entry found became %s", show(e))
	}
}

// isUnderElsewhere tells of two paths whether s is under dir, by their bytes.
func isUnderElsewhere(dir, s string) bool { return strings.HasPrefix(s, dir+"/") }

// checkElsewhere is the chapter's list, fault by fault: of every entry all that is wrong with it, the least one first.
func checkElsewhere(l []api.Entry) (int, api.Code) {
	if len(l) >= 33 {
		return itself, api.ErrLarge
	}
	for i, e := range l {
		faults := []bool{route.Check(e.Path) != nil, false, e.Size < 0 || e.Size >= 1025 || len(strings.Join(e.Keys, "")) != e.Size}
		for j := range i {
			if isUnderElsewhere(l[j].Path, e.Path) || j == i-1 && strings.Compare(l[j].Path, e.Path) >= 0 {
				faults[1] = true
			}
		}
		for _, key := range e.Keys {
			if key == "" || len(key) >= 65 {
				faults[2] = true
			}
		}
		for j, code := range []api.Code{api.ErrForm, api.ErrTwice, api.ErrArg} {
			if faults[j] {
				return i, code
			}
		}
	}
	return 0, 0
}

// P4.1: all lists of up to three of some entries, right ones and wrong ones.
func TestAllShortTrees(t *testing.T) {
	some := []api.Entry{
		entry("a", "x"), entry("a-b"), entry("a.c", "x", "yy"), entry("a/c", "x"), entry("a/c/d"), entry("a0", text("x", 64)), entry("b"),
		entry("A"), entry(""), sized("A", 1), sized("a", 1), sized("a/c", -1), sized("b", 2, "x", "", "y"), entry("a-b", text("x", 65)),
	}
	hold := func(l ...api.Entry) {
		at, code := checkElsewhere(l)
		if err := Check(l); !isFault(err, at, code) {
			t.Errorf("Check(%s) = %v, not %v at %d", show(l...), err, code, at)
		}
	}
	for _, one := range some {
		hold(one)
		for _, two := range some {
			hold(one, two)
			for _, three := range some {
				hold(one, two, three)
			}
		}
	}
}

// buildElsewhere is the chapter's list, of the faults of each file the first, and of no faults the tree.
func buildElsewhere(handed []api.File, c api.Cut) ([]api.Entry, int, api.Code) {
	if len(handed) >= 33 {
		return nil, itself, api.ErrLarge
	}
	byPath := map[string]api.File{}
	var paths []string
	for i, f := range handed {
		if route.Check(f.Path) != nil {
			return nil, i, api.ErrForm
		}
		if len(f.Bytes) >= 1025 {
			return nil, i, api.ErrLarge
		}
		for _, path := range paths {
			if path == f.Path || isUnderElsewhere(path, f.Path) || isUnderElsewhere(f.Path, path) {
				return nil, i, api.ErrTwice
			}
		}
		byPath[f.Path] = f
		paths = append(paths, f.Path)
	}
	slices.Sort(paths)
	var l []api.Entry
	for _, path := range paths {
		bytes := byPath[path].Bytes
		keys, _ := chunk.Split(bytes, c)
		l = append(l, sized(path, len(bytes), keys...))
	}
	return l, 0, 0
}

// P4.2, P4.5: all lists of up to three of some files, right ones and wrong ones; what is built is a tree, and is restored.
func TestAllShortLists(t *testing.T) {
	long := text("x", 1025)
	some := []api.File{
		file("a", "x"), file("a-b", ""), file("a.c", "xyz"), file("a/c", "xx"), file("a/c/d", "y"), file("a0", text("xy", 9)), file("b", "xyxy"),
		file("A", ""), file("", long), file("a", long), file("a/c", long), file("b", "y"),
	}
	for _, one := range some {
		holdBuilt(t, byTwo, one)
		for _, two := range some {
			holdBuilt(t, byTwo, one, two)
			for _, three := range some {
				holdBuilt(t, byTwo, one, two, three)
			}
		}
	}
}

// holdBuilt: Build tells the same as the list elsewhere, and what follows holds.
func holdBuilt(t *testing.T, c api.Cut, handed ...api.File) {
	t.Helper()
	want, at, code := buildElsewhere(handed, c)
	l, err := Build(handed, c)
	if !isFault(err, at, code) || !sameTree(l, want) {
		t.Fatalf("Build(%.300q, %+v) = %s, %v, not %s, %v at %d", handed, c, show(l...), err, show(want...), code, at)
	}
	if err != nil {
		return
	}
	if err := Check(l); err != nil {
		t.Fatalf("Build(%.300q, %+v) tells no tree: %v", handed, c, err)
	}
	sorted := slices.Clone(handed)
	slices.SortFunc(sorted, func(a, b api.File) int { return strings.Compare(a.Path, b.Path) })
	chunks := chunksOf(l)
	slices.Reverse(chunks)
	if got, err := Restore(l, chunks); err != nil || !slices.Equal(got, sorted) {
		t.Fatalf("%.300q, built and restored: %.300q, %v", handed, got, err)
	}
}

// P4.5: in whatever order files are handed in, the same tree comes of them, and they are restored, sorted.
func TestWhateverOrder(t *testing.T) {
	handed := []api.File{file("a", "xyz"), file("a-b/c", ""), file("a0", "xyz"), file("b/a", text("q", 100)), file("b/é", "\x00\xff")}
	want, err := Build(handed, byTwo)
	if err != nil {
		t.Fatal(err)
	}
	var permute func(n int)
	permute = func(n int) {
		if n == 1 {
			holdBuilt(t, byTwo, handed...)
			if got, err := Build(handed, byTwo); err != nil || !sameTree(got, want) {
				t.Errorf("Build(%.99q) = %s, %v", handed, show(got...), err)
			}
		}
		for i := range n {
			handed[i], handed[n-1] = handed[n-1], handed[i]
			permute(n - 1)
			handed[i], handed[n-1] = handed[n-1], handed[i]
		}
	}
	permute(len(handed))
}

// P4.5: many files of many sizes, by cuts of all kinds.
func TestManyFiles(t *testing.T) {
	dice := rand.New(rand.NewSource(4))
	cuts := []api.Cut{byTwo, {Min: 1, Max: 1}, {Min: 64, Max: 64, Mask: 255}, {Min: 1, Max: 64, Mask: 15}, {Min: 8, Max: 40, Mask: 7}, {Min: 3, Max: 5, Mask: 0}}
	for range 300 {
		handed := manyFiles(dice.Intn(33))
		for i := range handed {
			handed[i].Path = strings.Repeat("d/", dice.Intn(4)) + handed[i].Path
			bytes := make([]byte, dice.Intn(1025))
			for j := range bytes {
				bytes[j] = byte(dice.Intn(256))
			}
			handed[i].Bytes = string(bytes)
		}
		dice.Shuffle(len(handed), func(i, j int) { handed[i], handed[j] = handed[j], handed[i] })
		holdBuilt(t, cuts[dice.Intn(len(cuts))], handed...)
	}
}

// P4.5: what is below a path is below all of it: below whatever the path is under.
func TestBelowGoesTogether(t *testing.T) {
	l := entries("a-b/c", "a/b-/c/d", "a/b/c/d", "a/b/c/e", "a/b/d", "a/c", "b/a/a/a/a/a/a/a", "b/b", "c")
	dirs := []string{"", "a", "a/b", "a/b-", "a/b-/c", "a/b/c", "a/b/c/d", "a-b", "a/c", "b", "b/a", "b/a/a", "b/a/a/a/a/a/a", "c", "d", "a/d"}
	for _, upper := range dirs {
		above := Below(l, upper)
		for _, path := range above {
			if upper != "" && !isUnderElsewhere(upper, path) {
				t.Errorf("Below(%q) has %q", upper, path)
			}
		}
		for _, lower := range dirs {
			if upper != "" && !route.Under(upper, lower) {
				continue
			}
			for _, path := range Below(l, lower) {
				if !slices.Contains(above, path) {
					t.Errorf("%q is below %q, not below %q", path, lower, upper)
				}
			}
		}
	}
	// Of each path all that it is under has it below it.
	for _, e := range l {
		for dir := route.Parent(e.Path); ; dir = route.Parent(dir) {
			if !slices.Contains(Below(l, dir), e.Path) {
				t.Errorf("%q isn't below %q", e.Path, dir)
			}
			if dir == "" {
				break
			}
		}
	}
}

// P1: every call ends on long lists, of which nothing is right but how long they are.
func TestLongLists(t *testing.T) {
	l := []api.Entry{entry("a", slices.Repeat([]string{"x"}, 1024)...)}
	chunks := make([]string, 1<<20)
	if got, err := Restore(l, chunks); !isFault(err, 0, api.ErrNone) || len(got) != 0 {
		t.Errorf("Restore from empty chunks: %q, %v", got, err)
	}
	chunks[1<<20-1] = "x"
	if got, err := Restore(l, chunks); err != nil || len(got) != 1 || got[0].Bytes != text("x", 1024) {
		t.Errorf("Restore from the last of many chunks: %q, %v", got, err)
	}
	if err := Check(make([]api.Entry, 1<<20)); err != api.ErrLarge {
		t.Error(err)
	}
	if err := Check([]api.Entry{{Path: "a", Keys: make([]string, 1<<20)}}); !isFault(err, 0, api.ErrArg) {
		t.Error(err)
	}
	if _, err := Build(make([]api.File, 1<<20), byTwo); err != api.ErrLarge {
		t.Error(err)
	}
}
