package route

import (
	"regexp"
	"slices"
	"strings"
	"testing"
	"unicode/utf8"
	"unsafe"

	"becket/api"
)

// times is n times the same text, with another one between.
func times(n int, s, between string) string {
	return strings.TrimSuffix(strings.Repeat(s+between, n), between)
}

type pathParts struct {
	s     string
	parts []string
}

// paths are paths with their parts, written by hand: ordinary ones, and the edges.
func paths() []pathParts {
	wide := times(api.MaxRunes, "\U0001f600", "")
	most := slices.Repeat([]string{wide}, api.MaxParts)
	return []pathParts{
		{"a", []string{"a"}},
		{"z", []string{"z"}},
		{"0", []string{"0"}},
		{"9", []string{"9"}},
		{"_", []string{"_"}},
		{"-", []string{"-"}},
		{"a/b.c", []string{"a", "b.c"}},
		{"a/a/a", []string{"a", "a", "a"}},
		{"home/me_2/x-1.tar.gz", []string{"home", "me_2", "x-1.tar.gz"}},
		{"é-_0/日本", []string{"é-_0", "日本"}},
		{"\u0080", []string{"\u0080"}},
		{"\ufffc/\ufffe", []string{"\ufffc", "\ufffe"}},
		{"\U0010ffff", []string{"\U0010ffff"}},
		{"...", []string{"..."}},
		{".a/..a/a./a../.../.-./._", []string{".a", "..a", "a.", "a..", "...", ".-.", "._"}},
		{"1/2/3/4/5/6/7/8", []string{"1", "2", "3", "4", "5", "6", "7", "8"}},
		{times(16, "x", ""), []string{"xxxxxxxxxxxxxxxx"}},
		{times(16, ".", ""), []string{"................"}},
		{times(16, "é", ""), []string{"éééééééééééééééé"}},
		{times(8, wide, "/"), most},
	}
}

// notParts are texts that are no part, and no path either.
func notParts() []string {
	return []string{
		"", "/", "//", "a/", "/a", "a//b", "/a/b", "a/b/", "a/b//", "//a",
		".", "..", "./a", "../a", "a/.", "a/..", "a/./b", "a/../b",
		"A", "Z", "aBc", "a/B", "E\u0301", " ", "a b", "a\tb", "a\n", "\na", "a\x00", "\x00", "\x1f", "\x7f", "a\x7fb",
		"`", "{", "@", "[", ":", ",", "*", "~", "\\", "a\\b", "^", "+", "%2f", "a/b/~",
		times(17, "x", ""), times(17, ".", ""), times(17, "é", ""), times(17, "\U0001f600", ""), "a/" + times(17, "x", "") + "/b",
		"1/2/3/4/5/6/7/8/9", times(9, "日", "/"), times(100, "a", "/"), "1/2/3/4/5/6/7/8/", "/1/2/3/4/5/6/7/8",
		"\ufffd", "a\ufffd", "\ufffdb", "a/\ufffd",
		"\xff", "\x80", "\xbf", "a\x80b", "a\xc3", "a\xc3/b", "\xc3", "\xe6\x97", "\xf0\x9f\x98", "a/\xff",
		"\xc0\xaf", "a\xc0\xafb", "\xc1\xa1", "\xe0\x80\xaf", "\xed\xa0\x80", "\xf4\x90\x80\x80", "\xf8\x88\x80\x80\x80",
	}
}

// P2.1: of a path no error, and its parts in their order.
func TestPaths(t *testing.T) {
	for _, c := range paths() {
		if err := Check(c.s); err != nil {
			t.Errorf("Check(%q) = %v", c.s, err)
		}
		if got, err := Parts(c.s); !slices.Equal(got, c.parts) || err != nil {
			t.Errorf("Parts(%q) = %q, %v", c.s, got, err)
		}
		if got, err := Join(c.parts...); got != c.s || err != nil {
			t.Errorf("Join(%q) = %q, %v", c.parts, got, err)
		}
	}
}

// P2.1, R3: of what is no path ErrForm itself, and nothing beside it.
func TestNoPaths(t *testing.T) {
	for _, s := range notParts() {
		if err := Check(s); err != api.ErrForm {
			t.Errorf("Check(%q) = %v", s, err)
		}
		if got, err := Parts(s); len(got) != 0 || err != api.ErrForm {
			t.Errorf("Parts(%q) = %q, %v", s, got, err)
		}
	}
}

// P2.1, R3: a list with a part that is none is no path's, wherever that stands.
func TestJoinOfNoParts(t *testing.T) {
	lists := [][]string{nil, {}, {"a/b"}, {"a", "b/c"}, {"a/b", "c"}, {"a", "", "b"}, {"", ""}, slices.Repeat([]string{"a"}, api.MaxParts+1), slices.Repeat([]string{"a"}, 1000), slices.Repeat([]string{""}, 1000)}
	for _, s := range notParts() {
		lists = append(lists, []string{s}, []string{s, "a"}, []string{"a", s}, []string{"a", s, "b"})
	}
	for _, l := range lists {
		if got, err := Join(l...); got != "" || err != api.ErrForm {
			t.Errorf("Join(%q) = %q, %v", l, got, err)
		}
	}
}

// P2.1: bytes that are a character only when put together are none in two parts.
func TestCharacterOverTwoParts(t *testing.T) {
	for _, l := range [][]string{{"a\xc3", "\xa9b"}, {"\xc3", "\xa9"}, {"\xe6", "\x97", "\xa5"}} {
		if got, err := Join(l...); got != "" || err != api.ErrForm {
			t.Errorf("Join(%q) = %q, %v", l, got, err)
		}
	}
}

// P2.1: of all characters a part may have those that the document names.
func TestAllCharacters(t *testing.T) {
	const plain = "abcdefghijklmnopqrstuvwxyz0123456789_-."
	for char := rune(0); char <= utf8.MaxRune; char++ {
		if !utf8.ValidRune(char) {
			continue
		}
		var want error = api.ErrForm
		if strings.ContainsRune(plain, char) || char >= 0x80 && char != 0xfffd {
			want = nil
		}
		part := "x" + string(char)
		if _, err := Join(part); err != want {
			t.Errorf("Join(%q): %v", part, err)
		}
		if err := Check(part); err != want {
			t.Errorf("Check(%q): %v", part, err)
		}
	}
}

// P2.1: how many parts, and how many characters in each, in characters of one to four bytes.
func TestHowMany(t *testing.T) {
	for _, char := range []string{"a", "é", "日", "\U0001f600"} {
		for n := range 3 * api.MaxRunes {
			for count := range 2 * api.MaxParts {
				var want error = api.ErrForm
				if 1 <= n && n <= 16 && 1 <= count && count <= 8 {
					want = nil
				}
				l := slices.Repeat([]string{times(n, char, "")}, count)
				if _, err := Join(l...); err != want {
					t.Errorf("%d parts of %d times %s joined: %v", count, n, char, err)
				}
				if err := Check(strings.Join(l, "/")); err != want {
					t.Errorf("%d parts of %d times %s: %v", count, n, char, err)
				}
			}
		}
	}
}

type pair struct {
	dir, s string
	want   bool
}

func pairs() []pair {
	seven, eight := times(7, "a", "/"), times(8, "a", "/")
	return []pair{
		{"a", "a/b", true},
		{"a", "a/b/c", true},
		{"a/b", "a/b/c", true},
		{"a", "a/a", true},
		{"日本", "日本/é", true},
		{"...", ".../a", true},
		{"a", eight, true},
		{seven, eight, true},
		// A path and itself, and the other way round.
		{"a", "a", false},
		{"a/b", "a/b", false},
		{eight, eight, false},
		{"a/b", "a", false},
		{eight, seven, false},
		// The text begins so, the parts don't.
		{"a", "ab", false},
		{"a", "ab/c", false},
		{"a/b", "a/bc", false},
		{"a/b", "a/bc/d", false},
		{"a", "a.b", false},
		{"a", "a-b/c", false},
		{"a", "aé", false},
		{"..a", "..ab/c", false},
		// Its parts, but not first.
		{"b", "a/b", false},
		{"b", "a/b/c", false},
		{"a/c", "a/b/c", false},
		{"b/c", "a/b/c", false},
		{"ab", "a/b", false},
		// What is no path.
		{"", "a", false},
		{"", "a/b", false},
		{"", "", false},
		{"a", "", false},
		{"/", "/a", false},
		{"a/", "a/b", false},
		{"a", "a/", false},
		{"a", "a//b", false},
		{"a/", "a//b", false},
		{"a", "a/..", false},
		{"a", "a/./b", false},
		{".", "./a", false},
		{"..", "../a", false},
		{"A", "A/b", false},
		{"a", "a/B", false},
		{"a", "a/\xff", false},
		{"\xff", "\xff/a", false},
		{"\ufffd", "\ufffd/a", false},
		{"\xff", "\xfe/a", false},
		{"a", eight + "/a", false},
		{eight, eight + "/a", false},
		{"x", "x/" + times(17, "x", ""), false},
		{times(17, "x", ""), times(17, "x", "") + "/x", false},
	}
}

// P2.2: whether both are paths, and one has all parts of the other first, and more.
func TestUnder(t *testing.T) {
	for _, c := range pairs() {
		if got := Under(c.dir, c.s); got != c.want {
			t.Errorf("Under(%q, %q) = %v", c.dir, c.s, got)
		}
	}
	for _, s := range notParts() {
		if Under(s, s+"/a") || Under("a", "a/"+s) || Under(s, "a") || Under("a", s) || Under(s, s) {
			t.Errorf("%q is no path, and Under tells something of it", s)
		}
	}
}

// P2.2: all parts but the last one; empty of one part, and of what is no path.
func TestParent(t *testing.T) {
	for s, want := range map[string]string{
		"a":               "",
		"...":             "",
		"日本":              "",
		"a/b":             "a",
		"a/b/c":           "a/b",
		"a/a/a":           "a/a",
		"é/日本/x.tar":      "é/日本",
		"1/2/3/4/5/6/7/8": "1/2/3/4/5/6/7",
	} {
		if got := Parent(s); got != want {
			t.Errorf("Parent(%q) = %q", s, got)
		}
	}
	for _, s := range notParts() {
		for _, s := range []string{s, "a/" + s, s + "/a"} {
			if got := Parent(s); got != "" {
				t.Errorf("Parent(%q) = %q", s, got)
			}
		}
	}
}

// share tells whether two texts have a byte of memory in common.
func share(a, b string) bool {
	if a == "" || b == "" {
		return false
	}
	x, y := uintptr(unsafe.Pointer(unsafe.StringData(a))), uintptr(unsafe.Pointer(unsafe.StringData(b)))
	return x < y+uintptr(len(b)) && y < x+uintptr(len(a))
}

// P2.3: texts that are told are new memory: they share none with what was handed in.
func TestTextsAreNewMemory(t *testing.T) {
	for _, c := range paths() {
		s := strings.Clone(c.s)
		parts, err := Parts(s)
		if err != nil {
			t.Fatal(err)
		}
		if share(s, Parent(s)) {
			t.Errorf("Parent(%q) is a piece of it", s)
		}
		path, err := Join(parts...)
		if err != nil {
			t.Fatal(err)
		}
		for i, part := range parts {
			if share(s, part) {
				t.Errorf("part %d of %q is a piece of it", i, s)
			}
			if share(path, part) {
				t.Errorf("Join(%q) has memory of part %d", parts, i)
			}
		}
	}
}

// P2.3: the list that is joined stays as it is, what it has behind its end, too.
func TestJoinLeavesTheListAsItIs(t *testing.T) {
	whole := []string{"a", "b", "c", "D", "", "e/f"}
	kept := slices.Clone(whole)
	for n := range len(whole) + 1 {
		Join(whole[:n]...)
		if !slices.Equal(whole, kept) {
			t.Fatalf("%d parts joined: %q became %q", n, kept, whole)
		}
	}
}

// P2.3: a list of parts is new memory: a change of it reaches no other answer.
func TestPartsAreNewMemory(t *testing.T) {
	one, _ := Parts("a/b/c")
	two, _ := Parts("a/b/c")
	path, _ := Join(one...)
	for i := range one {
		one[i] = "x"
	}
	if !slices.Equal(two, []string{"a", "b", "c"}) || path != "a/b/c" {
		t.Errorf("a change of one answer made %q, %q of others", two, path)
	}
	if again, err := Parts("a/b/c"); !slices.Equal(again, two) || err != nil {
		t.Errorf("a change of an answer was kept: %q, %v", again, err)
	}
}

// smallPaths are all paths of up to three of some parts, one of which begins as another does.
func smallPaths() []string {
	parts := []string{"a", "ab", "a.", "é"}
	all := slices.Clone(parts)
	for _, x := range parts {
		for _, y := range parts {
			all = append(all, x+"/"+y)
			for _, z := range parts {
				all = append(all, x+"/"+y+"/"+z)
			}
		}
	}
	return all
}

// P2.4: parts joined are the path, and the path's parts those that were joined.
func TestPartsJoinedAreThePath(t *testing.T) {
	all := smallPaths()
	for _, c := range paths() {
		all = append(all, c.s)
	}
	for _, s := range all {
		parts, err := Parts(s)
		if err != nil {
			t.Fatalf("Parts(%q): %v", s, err)
		}
		path, err := Join(parts...)
		if path != s || err != nil {
			t.Errorf("the parts of %q joined: %q, %v", s, path, err)
		}
		if again, err := Parts(path); !slices.Equal(again, parts) || err != nil {
			t.Errorf("%q joined and cut: %q, %v", parts, again, err)
		}
	}
}

// P2.4: a path is under its parent, unless it has none; and nothing stands between them.
func TestUnderItsParent(t *testing.T) {
	all := smallPaths()
	for _, s := range all {
		parent := Parent(s)
		if (parent != "") != strings.Contains(s, "/") {
			t.Errorf("Parent(%q) = %q", s, parent)
		}
		if Under(parent, s) != (parent != "") {
			t.Errorf("Under(%q, %q) = %v", parent, s, Under(parent, s))
		}
		for _, other := range all {
			if Under(other, s) && other != parent && !Under(other, parent) {
				t.Errorf("%q is under %q, its parent %q isn't", s, other, parent)
			}
		}
	}
}

// P2.4: what is under what is under a path is under it; and Under has no circles.
func TestUnderGoesTogether(t *testing.T) {
	all := smallPaths()
	for _, x := range all {
		for _, y := range all {
			if !Under(x, y) {
				continue
			}
			if Under(y, x) {
				t.Errorf("%q and %q are under each other", x, y)
			}
			for _, z := range all {
				if Under(y, z) && !Under(x, z) {
					t.Errorf("%q is under %q, that is under %q", z, y, x)
				}
			}
		}
	}
}

var pathForm = regexp.MustCompile(`^[a-z0-9_.\-\x{80}-\x{10ffff}]{1,16}(/[a-z0-9_.\-\x{80}-\x{10ffff}]{1,16}){0,7}$`)

// isPathElsewhere tells whether s is a path by the library's own means.
func isPathElsewhere(s string) bool {
	if !utf8.ValidString(s) || strings.ContainsRune(s, utf8.RuneError) || !pathForm.MatchString(s) {
		return false
	}
	l := strings.Split(s, "/")
	return !slices.Contains(l, ".") && !slices.Contains(l, "..")
}

// holdAgainstElsewhere: every call tells the same of s as the library's means do.
func holdAgainstElsewhere(t *testing.T, s string) {
	t.Helper()
	err := Check(s)
	parts, errParts := Parts(s)
	if err != errParts {
		t.Fatalf("%q: Check tells %v, Parts %v", s, err, errParts)
	}
	if !isPathElsewhere(s) {
		if err != api.ErrForm || len(parts) != 0 || Parent(s) != "" {
			t.Fatalf("%q is no path: %v, %q, %q", s, err, parts, Parent(s))
		}
		return
	}
	want := strings.Split(s, "/")
	if err != nil || !slices.Equal(parts, want) {
		t.Fatalf("%q is a path: %v, %q", s, err, parts)
	}
	if parent := strings.Join(want[:len(want)-1], "/"); Parent(s) != parent {
		t.Fatalf("Parent(%q) = %q", s, Parent(s))
	}
}

// P1, P2.1, P2.2: all texts of up to six of these pieces, and all of two bytes.
func TestAllShortTexts(t *testing.T) {
	pieces := []string{"a", "/", ".", "A", "é", "\xc3", "\xa9", "\ufffd"}
	texts := []string{""}
	for range 6 {
		var longer []string
		for _, s := range texts {
			holdAgainstElsewhere(t, s)
			for _, piece := range pieces {
				longer = append(longer, s+piece)
			}
		}
		texts = longer
	}
	for _, s := range texts {
		holdAgainstElsewhere(t, s)
	}
	for x := range 256 {
		for y := range 256 {
			holdAgainstElsewhere(t, string([]byte{byte(x), byte(y)}))
		}
	}
}

// P1: long texts are gone through, too, and are no paths.
func TestLongTexts(t *testing.T) {
	const n = 1 << 20
	for _, s := range []string{times(n, "a", ""), times(n, "/", ""), times(n, "a", "/"), times(n, "\xff", ""), times(n, "日", ""), times(n, ".", "/")} {
		holdAgainstElsewhere(t, s)
		if Under(s, s) || Under("a", s) || Under(s, "a") {
			t.Errorf("%.9q and so on is no path", s)
		}
		if got, err := Join(s); got != "" || err != api.ErrForm {
			t.Errorf("Join(%.9q): %.9q, %v", s, got, err)
		}
	}
}
