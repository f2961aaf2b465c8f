package catalog

import (
	"fmt"
	"maps"
	"math"
	"math/rand"
	"regexp"
	"slices"
	"strconv"
	"strings"
	"testing"
	"unicode/utf8"
	"unsafe"

	"becket/api"
)

// The limits, written out.
const (
	clients  = 8
	snapsMax = 8
	filesMax = 32
	fileMax  = 1024
	keysMax  = 16
	keyMax   = 64
	numMax   = 100
)

// The errors' numbers, written out.
const (
	arg   = 1
	none  = 3
	twice = 4
	full  = 5
	state = 6
	large = 7
)

func text(s string, n int) string { return strings.Repeat(s, n) }

// path is one of n parts.
func path(n int, part string) string { return strings.Join(slices.Repeat([]string{part}, n), "/") }

// widest is a part of as many bytes as can be.
func widest() string { return text("\U0001f600", 16) }

// fullest are chunks of MaxFile bytes together.
func fullest() []string { return slices.Repeat([]string{text("k", keyMax)}, keysMax) }

func begin(name string) api.Op      { return api.Op{Kind: 1, Name: name} }
func commit(name string) api.Op     { return api.Op{Kind: 3, Name: name} }
func abort(name string) api.Op      { return api.Op{Kind: 4, Name: name} }
func list() api.Op                  { return api.Op{Kind: 5} }
func look(name, path string) api.Op { return api.Op{Kind: 6, Name: name, Path: path} }
func plan(name string) api.Op       { return api.Op{Kind: 7, Name: name} }
func prune(n int) api.Op            { return api.Op{Kind: 8, N: n} }
func held() api.Op                  { return api.Op{Kind: 9} }

func add(name, path string, keys ...string) api.Op {
	return api.Op{Kind: 2, Name: name, Path: path, Keys: keys}
}

func entry(path string, keys ...string) api.Entry {
	return api.Entry{Path: path, Size: len(strings.Join(keys, "")), Keys: keys}
}

func snap(client int, name string, done bool, entries ...api.Entry) api.Snapshot {
	return api.Snapshot{Client: client, Name: name, Done: done, Entries: entries}
}

func told(entries []api.Entry) string {
	var b strings.Builder
	for _, e := range entries {
		fmt.Fprintf(&b, " (%+q %d %+q)", e.Path, e.Size, e.Keys)
	}
	return b.String()
}

// toldSnaps are snapshots as a text; lists of no elements are the same, nil or not.
func toldSnaps(l []api.Snapshot) string {
	var b strings.Builder
	for _, s := range l {
		fmt.Fprintf(&b, "%d %+q %v%s\n", s.Client, s.Name, s.Done, told(s.Entries))
	}
	return b.String()
}

func toldAnswer(a api.Answer) string {
	return fmt.Sprintf("code %d, n %d, names %+q, keys %+q, entries%s", a.Code, a.N, a.Names, a.Keys, told(a.Entries))
}

func toldOp(client int, o api.Op) string {
	return short(fmt.Sprintf("client %d, kind %d %+q %+q %+q %d", client, o.Kind, o.Name, o.Path, o.Keys, o.N))
}

func short(s string) string { return s[:min(len(s), 400)] }

// all is what may be asked of a catalog, and what it tells; asking changes nothing.
func all(c *Catalog) string {
	var b strings.Builder
	snaps := c.Snaps()
	b.WriteString(toldSnaps(snaps))
	for client := range clients {
		b.WriteString(toldAnswer(c.Do(client, list())) + "\n")
	}
	for _, s := range snaps {
		b.WriteString(toldAnswer(c.Do(s.Client, plan(s.Name))) + "\n")
		for _, e := range s.Entries {
			b.WriteString(toldAnswer(c.Do(s.Client, look(s.Name, e.Path))) + "\n")
		}
	}
	b.WriteString(toldAnswer(c.Do(0, held())) + "\n")
	b.WriteString(toldSnaps(c.Snaps()))
	return b.String()
}

// answers holds an answer against what is wanted of it.
func answers(t *testing.T, c *Catalog, client int, o api.Op, want api.Answer) {
	t.Helper()
	if got := c.Do(client, o); toldAnswer(got) != toldAnswer(want) {
		t.Errorf("%s: %s, not %s", toldOp(client, o), short(toldAnswer(got)), short(toldAnswer(want)))
	}
}

// refuses holds that an operation is refused by this number, and that nothing is done.
func refuses(t *testing.T, c *Catalog, client int, o api.Op, code int) {
	t.Helper()
	before := all(c)
	for range 2 {
		answers(t, c, client, o, api.Answer{Code: code})
	}
	if after := all(c); after != before {
		t.Errorf("%s: refused, but\n%s became\n%s", toldOp(client, o), short(before), short(after))
	}
}

// does are operations of which nothing is told but that they were done.
func does(t *testing.T, c *Catalog, client int, ops ...api.Op) {
	t.Helper()
	for _, o := range ops {
		answers(t, c, client, o, api.Answer{})
	}
}

// has holds a catalog's snapshots against those that are wanted.
func has(t *testing.T, c *Catalog, want ...api.Snapshot) {
	t.Helper()
	for range 2 {
		if got := toldSnaps(c.Snaps()); got != toldSnaps(want) {
			t.Errorf("it has\n%snot\n%s", short(got), short(toldSnaps(want)))
		}
	}
}

func from(t *testing.T, l ...api.Snapshot) *Catalog {
	t.Helper()
	c, err := From(l)
	if c == nil || err != nil {
		t.Fatalf("From(%s) = %v, %v", short(toldSnaps(l)), c, err)
	}
	return c
}

// some is a catalog of a few snapshots, open and committed, of clients 0, 1 and 7.
func some(t *testing.T) *Catalog {
	t.Helper()
	return from(t,
		snap(0, "s", true, entry("a", "xy", "z"), entry("b/c")),
		snap(7, "s", false, entry("a", "q")),
		snap(0, "u", false, entry("d", "w")),
		snap(1, "v", true),
		snap(0, "t", true, entry("a/b", "xy")),
	)
}

// P9.1: a new catalog has no snapshots; each is one of its own.
func TestNew(t *testing.T) {
	c := New()
	has(t, c)
	for client := range clients {
		answers(t, c, client, list(), api.Answer{})
		answers(t, c, client, held(), api.Answer{})
		for _, n := range []int{0, 1, 8, numMax} {
			answers(t, c, client, prune(n), api.Answer{})
		}
		for _, o := range []api.Op{add("s", "a"), add("s", "a", "x"), commit("s"), abort("s"), look("s", "a"), plan("s")} {
			refuses(t, c, client, o, none)
		}
	}
	has(t, c)
	other := New()
	if c == other {
		t.Fatal("two catalogs are one")
	}
	does(t, c, 0, begin("s"))
	has(t, c, snap(0, "s", false))
	has(t, other)
	has(t, New())
	empty, err := From(nil)
	if err != nil {
		t.Fatal(err)
	}
	has(t, empty)
	has(t, from(t, []api.Snapshot{}...))
	does(t, empty, 3, begin("s"))
	has(t, empty, snap(3, "s", false))
}

// P9.2: the chapter's example, for each client.
func TestExample(t *testing.T) {
	for client := range clients {
		c := New()
		does(t, c, client, begin("s"), commit("s"))
		answers(t, c, client, list(), api.Answer{Names: []string{"s"}})
		has(t, c, snap(client, "s", true))
	}
}

// P9.1: snapshots that can be a catalog's are it, in their order.
func TestFrom(t *testing.T) {
	for _, l := range [][]api.Snapshot{
		nil,
		{},
		{snap(0, "s", false)},
		{snap(0, "s", true)},
		{snap(7, "s", true, entry("a", "x"))},
		{snap(7, "s", false, entry("a"))},
		{snap(7, "b", false), snap(0, "b", true), snap(7, "a", true), snap(3, "b", false)},
		{snap(0, "a", true), snap(0, "aa", true), snap(0, "a.", false), snap(0, "ä", true)},
		{snap(2, text("x", 16), true), snap(2, widest(), true), snap(2, "...", false), snap(2, "0", true)},
		{snap(1, "s", true, entry("a-b", "x"), entry("a/c", "x"), entry("a0", "x"))},
		{snap(1, "s", true, entry(path(8, widest()), fullest()...))},
		{snap(1, "s", true, entry(path(8, "a")), entry(path(7, "a")+"/b"), entry("b"))},
		{snap(1, "s", true, entry("a", slices.Repeat([]string{"x"}, keysMax)...))},
		{snap(1, "s", true, entry("a", "\x00", "\xff", "\x80\x80"))},
	} {
		c := from(t, l...)
		has(t, c, l...)
		if before := all(c); before != all(from(t, c.Snaps()...)) {
			t.Errorf("a catalog of what it told isn't like it: %s", short(before))
		}
	}
}

// fullSnaps are as many snapshots, entries and chunks as a catalog can have, no two chunks alike.
func fullSnaps() []api.Snapshot {
	var l []api.Snapshot
	for i := range snapsMax {
		for client := range clients {
			s := snap(client, "s"+strconv.Itoa(i), (i+client)%2 == 0)
			for j := range filesMax {
				var keys []string
				for k := range keysMax {
					keys = append(keys, fmt.Sprintf("%064d", ((i*clients+client)*filesMax+j)*keysMax+k))
				}
				s.Entries = append(s.Entries, entry(fmt.Sprintf("d%d/f%02d", i, j), keys...))
			}
			l = append(l, s)
		}
	}
	return l
}

// P9.1, P9.2: a catalog that has all that it can.
func TestFullest(t *testing.T) {
	l := fullSnaps()
	c := from(t, l...)
	has(t, c, l...)
	keys := c.Do(5, held()).Keys
	if len(keys) != 32768 || !slices.IsSorted(keys) || keys[0] != text("0", 64) || keys[32767] != fmt.Sprintf("%064d", 32767) {
		t.Errorf("OpHeld tells %d chunks", len(keys))
	}
	for client := range clients {
		answers(t, c, client, begin("s0"), api.Answer{Code: twice})
		answers(t, c, client, begin("new"), api.Answer{Code: full})
	}
	answers(t, c, 0, add("s1", "e"), api.Answer{Code: full})
	has(t, c, l...)
	for client := range clients {
		answers(t, c, client, prune(0), api.Answer{N: 4})
		does(t, c, client, begin("new"))
	}
	if n := len(c.Snaps()); n != 40 {
		t.Errorf("%d snapshots are left", n)
	}
}

// wrongEntries are no tree, or have an entry of too many chunks, each by one thing alone.
func wrongEntries() map[string][]api.Entry {
	x := entry("a", "x")
	many := func(n int) []api.Entry {
		var l []api.Entry
		for i := range n {
			l = append(l, entry(fmt.Sprintf("f%04d", i), "x"))
		}
		return l
	}
	l := map[string][]api.Entry{
		"33 files":            many(filesMax + 1),
		"many files":          many(1000),
		"one path twice":      {x, x},
		"falling paths":       {entry("b"), entry("a")},
		"the third falls":     {entry("a"), entry("c"), entry("b")},
		"under":               {entry("a"), entry("a/b")},
		"under, far":          {entry("a"), entry("a-b"), entry("a.b"), entry("a/b")},
		"under, deep":         {entry("a/b"), entry("a/b/c/d")},
		"not by bytes":        {entry("a/c"), entry("a-b")},
		"an empty chunk":      {entry("a", "x", "")},
		"only an empty chunk": {entry("a", "")},
		"a chunk of 65":       {entry("a", text("k", keyMax+1))},
		"17 chunks":           {entry("a", slices.Repeat([]string{"x"}, keysMax+1)...)},
		"17 chunks, second":   {entry("a", "x"), entry("b", slices.Repeat([]string{"x"}, keysMax+1)...), entry("c")},
		"17 chunks, last":     {entry("a", "x"), entry("b"), entry("c", slices.Repeat([]string{"x"}, keysMax+1)...)},
		"18 chunks":           {entry("a", slices.Repeat([]string{"x"}, keysMax+2)...)},
		"1024 chunks":         {entry("a", slices.Repeat([]string{"x"}, fileMax)...)},
		"1025 bytes":          {entry("a", append(fullest(), "x")...)},
		"many chunks":         {entry("a", slices.Repeat([]string{"x"}, 1<<20)...)},
		"many empty chunks":   {entry("a", slices.Repeat([]string{""}, 1<<20)...)},
		"the second at fault": {x, entry("B", "x")},
		"the last at fault":   append(many(filesMax-1), entry("z", "")),
	}
	for _, size := range []int{0, 2, -1, 1023, 1024, 1025, 1<<32 + 1, math.MaxInt, math.MinInt, math.MinInt + 1} {
		l["size "+strconv.Itoa(size)] = []api.Entry{{Path: "a", Size: size, Keys: []string{"x"}}}
	}
	for _, size := range []int{1, -1, 1024, math.MaxInt, math.MinInt} {
		l["no chunks, size "+strconv.Itoa(size)] = []api.Entry{{Path: "a", Size: size}}
	}
	for _, p := range noPaths() {
		l["path "+short(p)] = []api.Entry{entry(p, "x")}
	}
	return l
}

func noPaths() []string {
	return []string{
		"", "A", "a b", " ", "/", "a/", "/a", "a//b", ".", "..", "a/..", "./a", "\x00", "\n", "*", "\xff", "a\x80", "\xc3", "\ufffd",
		text("x", 17), text("é", 17), text("x", 5000), path(9, "a"), path(1000, "a"), text("a/", 1<<20),
	}
}

// wrongSnaps can be no catalog's, each by one thing of one snapshot alone.
func wrongSnaps() map[string]api.Snapshot {
	l := map[string]api.Snapshot{}
	for _, client := range []int{-1, -2, -8, clients, clients + 1, 100, 128, 256, 1 << 32, 1<<32 + 1, math.MaxInt, math.MinInt, math.MinInt + 1} {
		l["client "+strconv.Itoa(client)] = snap(client, "new", true, entry("a", "x"))
	}
	for _, name := range append(noPaths(), "a/b", "a/b/c", path(8, "a"), path(2, widest())) {
		l["name "+short(name)] = snap(2, name, true, entry("a", "x"))
	}
	for what, entries := range wrongEntries() {
		l[what] = snap(2, "new", true, entries...)
	}
	return l
}

// refusesFrom holds that snapshots can't be a catalog's: R3, nothing beside the error.
func refusesFrom(t *testing.T, what string, l []api.Snapshot) {
	t.Helper()
	for range 2 {
		if c, err := From(l); c != nil || err != api.ErrArg {
			t.Errorf("%s: From tells %v, %v", short(what), c, err)
		}
	}
}

// P9.1, R3: a snapshot that can be none, alone, first, last and between others, open and committed.
func TestFromWrong(t *testing.T) {
	for what, s := range wrongSnaps() {
		for _, done := range []bool{true, false} {
			s.Done = done
			refusesFrom(t, what, []api.Snapshot{s})
			refusesFrom(t, what+", first", []api.Snapshot{s, snap(0, "a", true), snap(2, "b", false)})
			refusesFrom(t, what+", last", []api.Snapshot{snap(0, "a", true), snap(2, "b", false), s})
			refusesFrom(t, what+", between", []api.Snapshot{snap(0, "a", true), s, snap(2, "b", false)})
		}
	}
	refusesFrom(t, "a zero snapshot", make([]api.Snapshot, 1))
	refusesFrom(t, "many zero snapshots", make([]api.Snapshot, 1<<20))
}

// P9.1: a client has at most eight, and each name once, wherever its snapshots stand.
func TestFromOfAClient(t *testing.T) {
	for client := range clients {
		var mine, row []api.Snapshot
		for i := range snapsMax + 1 {
			mine = append(mine, snap(client, "s"+strconv.Itoa(i), i%2 == 0))
			row = append(row, mine[i], snap((client+1)%clients, "o"+strconv.Itoa(i), true))
		}
		for n := range snapsMax + 1 {
			has(t, from(t, mine[:n]...), mine[:n]...)
			has(t, from(t, row[:2*n]...), row[:2*n]...)
		}
		refusesFrom(t, "nine of a client", mine)
		refusesFrom(t, "nine of a client, others between", row[:2*snapsMax+1])
		var others []api.Snapshot
		for i := range snapsMax {
			others = append(others, snap((client+3)%clients, "s"+strconv.Itoa(i), true))
		}
		has(t, from(t, slices.Concat(mine[:8], others)...), slices.Concat(mine[:8], others)...)
		refusesFrom(t, "nine of a client, eight of another behind", slices.Concat(mine, others))
		refusesFrom(t, "nine of a client, eight of another ahead", slices.Concat(others, mine))
		for _, done := range []bool{true, false} {
			for _, doneToo := range []bool{true, false} {
				one, two := snap(client, "a", done), snap(client, "a", doneToo, entry("a"))
				refusesFrom(t, "one name twice", []api.Snapshot{one, two})
				refusesFrom(t, "one name twice, others between", slices.Concat([]api.Snapshot{one}, mine[:2], others, []api.Snapshot{two}))
				two.Client = (client + 5) % clients
				has(t, from(t, one, two), one, two)
			}
		}
	}
	long := make([]api.Snapshot, 1<<20)
	for i := range long {
		long[i] = snap(i%clients, "n"+strconv.Itoa(i), true)
	}
	refusesFrom(t, "very many", long)
}

// P9.1: Snaps tells all in the order in which they began, whatever came of those around them.
func TestOrderOfSnaps(t *testing.T) {
	c := New()
	does(t, c, 3, begin("c"))
	does(t, c, 0, begin("b"), begin("a"))
	does(t, c, 3, begin("a"), commit("a"))
	does(t, c, 7, begin("z"))
	has(t, c, snap(3, "c", false), snap(0, "b", false), snap(0, "a", false), snap(3, "a", true), snap(7, "z", false))
	does(t, c, 0, commit("a"), abort("b"), begin("b"), commit("b"))
	does(t, c, 3, commit("c"))
	has(t, c, snap(3, "c", true), snap(0, "a", true), snap(3, "a", true), snap(7, "z", false), snap(0, "b", true))
	answers(t, c, 3, list(), api.Answer{Names: []string{"c", "a"}})
	answers(t, c, 0, list(), api.Answer{Names: []string{"a", "b"}})
	answers(t, c, 7, list(), api.Answer{})
	answers(t, c, 3, prune(1), api.Answer{N: 1})
	has(t, c, snap(0, "a", true), snap(3, "a", true), snap(7, "z", false), snap(0, "b", true))
	does(t, c, 3, begin("c"), commit("c"))
	answers(t, c, 3, list(), api.Answer{Names: []string{"a", "c"}})
}

// P9.2, OpBegin: a client's first, and its eighth, of every client; what went gives room, and its name, back.
func TestBegin(t *testing.T) {
	for client := range clients {
		c := some(t)
		for _, s := range c.Snaps() {
			if s.Client == client {
				refuses(t, c, client, begin(s.Name), twice)
			}
		}
		c = New()
		var want []api.Snapshot
		for i := range snapsMax {
			name := "s" + strconv.Itoa(i)
			does(t, c, client, begin(name))
			want = append(want, snap(client, name, false))
			has(t, c, want...)
			refuses(t, c, client, begin(name), twice)
			refuses(t, c, client, begin("s0"), twice)
			if i%2 == 1 {
				does(t, c, client, commit(name))
				want[i].Done = true
				refuses(t, c, client, begin(name), twice)
			}
		}
		refuses(t, c, client, begin("s8"), full)
		refuses(t, c, client, begin("s"), full)
		// Both errors at once, of open and of committed ones: the first is answered.
		for i := range snapsMax {
			refuses(t, c, client, begin("s"+strconv.Itoa(i)), twice)
		}
		does(t, c, (client+1)%clients, begin("s0"))
		want = append(want, snap((client+1)%clients, "s0", false))
		does(t, c, client, abort("s0"), begin("s8"))
		has(t, c, append(slices.Clone(want[1:]), snap(client, "s8", false))...)
		refuses(t, c, client, begin("s0"), full)
		answers(t, c, client, prune(3), api.Answer{N: 1})
		does(t, c, client, begin("s1"))
		refuses(t, c, client, begin("s0"), full)
	}
}

// P9.2: clients 0 and 7, and those between, have snapshots of one name, each its own.
func TestSameNames(t *testing.T) {
	c := New()
	var want []api.Snapshot
	for client := range clients {
		does(t, c, client, begin("s"), add("s", "a", "k"+strconv.Itoa(client)))
		want = append(want, snap(client, "s", false, entry("a", "k"+strconv.Itoa(client))))
	}
	has(t, c, want...)
	does(t, c, 0, commit("s"))
	answers(t, c, 0, look("s", "a"), api.Answer{N: 2, Keys: []string{"k0"}})
	refuses(t, c, 7, look("s", "a"), state)
	does(t, c, 7, add("s", "b"), commit("s"))
	answers(t, c, 7, plan("s"), api.Answer{Entries: []api.Entry{entry("a", "k7"), entry("b")}})
	answers(t, c, 0, plan("s"), api.Answer{Entries: []api.Entry{entry("a", "k0")}})
	answers(t, c, 0, prune(0), api.Answer{N: 1})
	answers(t, c, 7, list(), api.Answer{Names: []string{"s"}})
	answers(t, c, 0, list(), api.Answer{})
	does(t, c, 3, abort("s"))
	refuses(t, c, 3, abort("s"), none)
	want = slices.Concat(want[1:3], want[4:7], []api.Snapshot{snap(7, "s", true, entry("a", "k7"), entry("b"))})
	has(t, c, want...)
}

// P9.2: a snapshot without entries, with one, and with 32, one more of which is refused.
func TestFiles(t *testing.T) {
	for n := range filesMax + 1 {
		c := New()
		does(t, c, 4, begin("s"))
		var entries []api.Entry
		for i := range n {
			e := entry(fmt.Sprintf("f%02d", i), "k"+strconv.Itoa(i))
			does(t, c, 4, add("s", e.Path, e.Keys...))
			entries = append(entries, e)
		}
		has(t, c, snap(4, "s", false, entries...))
		if n == filesMax {
			refuses(t, c, 4, add("s", "new", "x"), full)
			refuses(t, c, 4, add("s", "a"), full)
			// Both errors at once.
			refuses(t, c, 4, add("s", "f00", "x"), twice)
			refuses(t, c, 4, add("s", "f31/a", "x"), twice)
			does(t, c, 4, begin("t"), add("t", "new", "x"), abort("t"))
		}
		does(t, c, 4, commit("s"))
		answers(t, c, 4, plan("s"), api.Answer{Entries: entries})
		for _, e := range entries {
			answers(t, c, 4, look("s", e.Path), api.Answer{N: e.Size, Keys: e.Keys})
		}
		refuses(t, c, 4, look("s", "new"), none)
	}
}

// P9.2: entries of no chunks, of one, of as many as can be, and of as many bytes; chunks that are there twice.
func TestKeys(t *testing.T) {
	for _, keys := range [][]string{
		nil, {}, {"x"}, {"x", "y"}, {"y", "x"}, {"x", "x", "x"}, {text("k", keyMax)}, {"\x00", "\xff", "\xc3"},
		slices.Repeat([]string{"x"}, keysMax-1), slices.Repeat([]string{"x"}, keysMax), fullest(), fullest()[1:], append(fullest()[1:], text("k", 63)),
	} {
		size := len(strings.Join(keys, ""))
		c := New()
		does(t, c, 1, begin("s"), add("s", "b", keys...), add("s", "a", "x"))
		has(t, c, snap(1, "s", false, entry("a", "x"), api.Entry{Path: "b", Size: size, Keys: keys}))
		does(t, c, 1, commit("s"))
		answers(t, c, 1, look("s", "b"), api.Answer{N: size, Keys: keys})
		answers(t, c, 1, plan("s"), api.Answer{Entries: []api.Entry{entry("a", "x"), {Path: "b", Size: size, Keys: keys}}})
	}
	c := New()
	does(t, c, 1, begin("s"))
	for _, keys := range [][]string{append(fullest(), "x"), slices.Repeat([]string{"x"}, keysMax+1), {text("k", keyMax+1)}, {"x", ""}} {
		refuses(t, c, 1, add("s", "b", keys...), arg)
	}
	if size := sizeOf(fullest()); size != fileMax {
		t.Errorf("%d bytes", size)
	}
}

// P9.2, OpAdd: paths that no tree has beside each other are refused, in both orders; all others aren't.
func TestPaths(t *testing.T) {
	paths := []string{
		"a", "b", "aa", "a-b", "a.b", "a0", "a_", "...", "é", "\U0001f600", "a/b", "a/c", "a/b/c", "a-b/c", "b/a", "aa/b", "a/bb",
		path(8, "a"), path(7, "a"), path(7, "a") + "/b", path(8, widest()), path(7, widest()), widest(), text("x", 16),
	}
	clash := 0
	for _, one := range paths {
		for _, two := range paths {
			c := New()
			does(t, c, 2, begin("s"), add("s", one, "x"))
			if one == two || strings.HasPrefix(one, two+"/") || strings.HasPrefix(two, one+"/") {
				refuses(t, c, 2, add("s", two), twice)
				refuses(t, c, 2, add("s", two, "x"), twice)
				has(t, c, snap(2, "s", false, entry(one, "x")))
				clash++
				continue
			}
			does(t, c, 2, add("s", two, "y"))
			want := []api.Entry{entry(one, "x"), entry(two, "y")}
			if two < one {
				slices.Reverse(want)
			}
			has(t, c, snap(2, "s", false, want...))
		}
	}
	if clash < len(paths)+10 {
		t.Errorf("only %d pairs clash", clash)
	}
	// What it clashes with needn't stand beside it.
	for _, ahead := range [][]string{{"a", "a-b", "a.b"}, {"a.b", "a-b", "a", "b", "a0"}} {
		c := New()
		does(t, c, 2, begin("s"))
		for _, p := range ahead {
			does(t, c, 2, add("s", p))
		}
		refuses(t, c, 2, add("s", "a/b"), twice)
	}
	c := New()
	does(t, c, 2, begin("s"), add("s", "a/b"), add("s", "a-b"), add("s", "a.b"))
	refuses(t, c, 2, add("s", "a"), twice)
}

// orders calls with each order of a list.
func orders(l []string, call func([]string)) {
	var step func(n int)
	step = func(n int) {
		if n == len(l) {
			call(l)
			return
		}
		for i := n; i < len(l); i++ {
			l[n], l[i] = l[i], l[n]
			step(n + 1)
			l[n], l[i] = l[i], l[n]
		}
	}
	step(0)
}

// P9.2: in whatever order entries are added, they are told sorted by paths, byte by byte.
func TestAnyOrder(t *testing.T) {
	paths := []string{"a-b", "a.b", "a/b", "a/c", "a0", "é"}
	var want []api.Entry
	for _, p := range paths {
		want = append(want, entry(p, p, "x"))
	}
	orders(slices.Clone(paths), func(order []string) {
		c := New()
		does(t, c, 6, begin("s"))
		for _, p := range order {
			does(t, c, 6, add("s", p, p, "x"))
		}
		if got := c.Snaps(); toldSnaps(got) != toldSnaps([]api.Snapshot{snap(6, "s", false, want...)}) {
			t.Fatalf("%+q: %s", order, toldSnaps(got))
		}
		does(t, c, 6, commit("s"))
		answers(t, c, 6, plan("s"), api.Answer{Entries: want})
	})
	many := rand.New(rand.NewSource(9)).Perm(filesMax)
	c := New()
	does(t, c, 6, begin("s"))
	want = nil
	for i, x := range many {
		does(t, c, 6, add("s", fmt.Sprintf("f%02d", x)))
		want = append(want, entry(fmt.Sprintf("f%02d", i)))
	}
	has(t, c, snap(6, "s", false, want...))
}

// P9.2, OpAdd: each error of the row alone, and several at once.
func TestAddErrors(t *testing.T) {
	var most []api.Entry
	for i := range filesMax {
		most = append(most, entry(fmt.Sprintf("f%02d", i), "x"))
	}
	c := from(t,
		snap(1, "open", false, entry("a/b", "x")),
		snap(1, "done", true, entry("a/b", "x")),
		snap(1, "full", false, most...),
		snap(1, "both", true, most...),
		snap(2, "other", false),
	)
	for _, x := range []struct {
		o    api.Op
		code int
	}{
		{add("new", "c"), none},
		{add("other", "c"), none},
		{add("new", "a/b"), none},
		{add("done", "c"), state},
		{add("done", "a/b"), state},
		{add("done", "a"), state},
		{add("both", "c"), state},
		{add("both", "f00"), state},
		{add("open", "a/b"), twice},
		{add("open", "a/b", "x"), twice},
		{add("open", "a"), twice},
		{add("open", "a/b/c"), twice},
		{add("full", "f00"), twice},
		{add("full", "f31/a"), twice},
		{add("full", "c"), full},
		{add("full", "c", fullest()...), full},
		{add("new", "A"), arg},
		{add("done", "c", ""), arg},
		{add("full", "f00", append(fullest(), "x")...), arg},
		{add("full", "c", text("x", 65)), arg},
		{add("open", "a", slices.Repeat([]string{"x"}, 17)...), arg},
		{api.Op{Kind: 2, Name: "new", Path: "c", N: 1}, arg},
	} {
		refuses(t, c, 1, x.o, x.code)
	}
	does(t, c, 1, add("open", "c", fullest()...))
}

// P9.2, R1, OpAdd: ErrLarge, which no request that may be comes to, is the last of the row.
func TestLarge(t *testing.T) {
	var most []api.Entry
	for i := range filesMax {
		most = append(most, entry(fmt.Sprintf("f%02d", i), "x"))
	}
	for _, x := range []struct {
		there []api.Entry
		path  string
		size  int
		code  int
	}{
		{nil, "a", 0, 0},
		{nil, "a", fileMax, 0},
		{nil, "a", fileMax + 1, large},
		{most[:31], "a", fileMax, 0},
		{most[:31], "a", fileMax + 1, large},
		{most, "a", fileMax + 1, full},
		{most, "f00", fileMax + 1, twice},
		{most[:1], "f00/a", fileMax + 1, twice},
		{[]api.Entry{entry("f/a")}, "f", fileMax + 1, twice},
	} {
		if code := faultOf(x.there, api.Entry{Path: x.path, Size: x.size}); int(code) != x.code {
			t.Errorf("%d files, %s of %d bytes: %d, not %d", len(x.there), x.path, x.size, code, x.code)
		}
	}
}

// P9.2, OpCommit and OpAbort: each error, and what is done else.
func TestCommitAndAbort(t *testing.T) {
	for _, client := range []int{0, 1, 6, 7} {
		for _, entries := range [][]api.Entry{nil, {entry("a", "x")}, {entry("a"), entry("b/c", fullest()...)}} {
			other := (client + 1) % clients
			ahead, behind, mine := snap(client, "r", true), snap(client, "t", false), snap(other, "s", true, entry("q", "q"))
			l := []api.Snapshot{ahead, snap(client, "s", false, entries...), mine, behind}
			c := from(t, l...)
			for _, o := range []api.Op{commit("new"), abort("new"), commit("ss"), abort("q")} {
				refuses(t, c, client, o, none)
				refuses(t, c, other, o, none)
			}
			for _, o := range []api.Op{commit("r"), abort("r")} {
				refuses(t, c, client, o, state)
				refuses(t, c, other, o, none)
			}
			refuses(t, c, other, commit("s"), state)
			refuses(t, c, other, abort("s"), state)
			for _, o := range []api.Op{look("s", "a"), look("s", "new"), plan("s")} {
				refuses(t, c, client, o, state)
			}
			answers(t, c, client, list(), api.Answer{Names: []string{"r"}})
			does(t, c, client, commit("s"))
			has(t, c, ahead, snap(client, "s", true, entries...), mine, behind)
			answers(t, c, client, list(), api.Answer{Names: []string{"r", "s"}})
			answers(t, c, client, plan("s"), api.Answer{Entries: entries})
			for _, o := range []api.Op{commit("s"), abort("s"), add("s", "new"), add("s", "a")} {
				refuses(t, c, client, o, state)
			}
			refuses(t, c, client, begin("s"), twice)

			c = from(t, l...)
			does(t, c, client, abort("s"))
			has(t, c, ahead, mine, behind)
			for _, o := range []api.Op{commit("s"), abort("s"), add("s", "new"), look("s", "a"), plan("s")} {
				refuses(t, c, client, o, none)
			}
			does(t, c, client, begin("s"))
			has(t, c, ahead, mine, behind, snap(client, "s", false))
		}
	}
}

// P9.2, OpList, OpLook and OpPlan: each error alone and several at once, and what is told else.
func TestAsking(t *testing.T) {
	c := from(t,
		snap(3, "z", true, entry("a", "xy", "z"), entry("b/c"), entry("b/d", fullest()...)),
		snap(4, "y", true, entry("e", "x")),
		snap(3, "open", false, entry("a", "x")),
		snap(3, "empty", true),
		snap(3, "a", true, entry("b", "x")),
	)
	before := all(c)
	answers(t, c, 3, list(), api.Answer{Names: []string{"z", "empty", "a"}})
	answers(t, c, 4, list(), api.Answer{Names: []string{"y"}})
	answers(t, c, 5, list(), api.Answer{})
	answers(t, c, 3, look("z", "a"), api.Answer{N: 3, Keys: []string{"xy", "z"}})
	answers(t, c, 3, look("z", "b/c"), api.Answer{})
	answers(t, c, 3, look("z", "b/d"), api.Answer{N: fileMax, Keys: fullest()})
	answers(t, c, 3, look("a", "b"), api.Answer{N: 1, Keys: []string{"x"}})
	answers(t, c, 3, plan("z"), api.Answer{Entries: []api.Entry{entry("a", "xy", "z"), entry("b/c"), entry("b/d", fullest()...)}})
	answers(t, c, 3, plan("empty"), api.Answer{})
	for _, x := range []struct {
		client int
		o      api.Op
		code   int
	}{
		{3, look("z", "b"), none},
		{3, look("z", "b/c/d"), none},
		{3, look("z", "b/e"), none},
		{3, look("z", "aa"), none},
		{3, look("z", "e"), none},
		{3, look("empty", "a"), none},
		{3, look("new", "a"), none},
		{3, look("y", "e"), none},
		{4, look("z", "a"), none},
		{3, look("open", "a"), state},
		{3, look("open", "new"), state},
		{3, look("z", ""), arg},
		{3, look("open", "A"), arg},
		{3, look("new", "a/"), arg},
		{3, look("z/a", "a"), arg},
		{3, plan("new"), none},
		{3, plan("y"), none},
		{4, plan("z"), none},
		{3, plan("open"), state},
		{4, plan("open"), none},
		{3, plan(""), arg},
		{3, plan("open/a"), arg},
	} {
		refuses(t, c, x.client, x.o, x.code)
	}
	if after := all(c); after != before {
		t.Errorf("asked, %s became %s", short(before), short(after))
	}
}

// P9.2, OpPrune: of fewer than, as many as and more than there are; open ones, and other clients', stay.
func TestPrune(t *testing.T) {
	for _, client := range []int{0, 2, 7} {
		other := (client + 1) % clients
		for committed := range snapsMax + 1 {
			var l []api.Snapshot
			for i := range snapsMax {
				// Of eight, as many as asked for are committed; the open ones stand among them.
				done := i*3%snapsMax < committed
				l = append(l, snap(client, "s"+strconv.Itoa(i), done, entry("a", "k"+strconv.Itoa(i))), snap(other, "s"+strconv.Itoa(i), i%2 == 0, entry("a", "o")))
			}
			for _, n := range []int{0, 1, 2, 3, 4, 5, 6, 7, 8, 9, 50, numMax} {
				c := from(t, l...)
				gone := max(0, committed-n)
				var want []api.Snapshot
				var names []string
				went := 0
				for _, s := range l {
					if s.Client == client && s.Done {
						if went < gone {
							went++
							continue
						}
						names = append(names, s.Name)
					}
					want = append(want, s)
				}
				answers(t, c, client, prune(n), api.Answer{N: gone})
				has(t, c, want...)
				answers(t, c, client, list(), api.Answer{Names: names})
				answers(t, c, client, prune(n), api.Answer{})
				has(t, c, want...)
			}
			refuses(t, from(t, l...), client, prune(-1), arg)
			refuses(t, from(t, l...), client, prune(numMax+1), arg)
		}
	}
}

// P9.2, OpPrune: what is last is what began last, whatever was committed last.
func TestPruneByBegin(t *testing.T) {
	c := New()
	does(t, c, 0, begin("a"), begin("b"), begin("c"), commit("c"), commit("b"), commit("a"))
	answers(t, c, 0, list(), api.Answer{Names: []string{"a", "b", "c"}})
	answers(t, c, 0, prune(2), api.Answer{N: 1})
	answers(t, c, 0, list(), api.Answer{Names: []string{"b", "c"}})
	for _, o := range []api.Op{plan("a"), look("a", "x"), commit("a"), abort("a"), add("a", "x")} {
		refuses(t, c, 0, o, none)
	}
	does(t, c, 0, begin("a"), commit("a"))
	answers(t, c, 0, prune(1), api.Answer{N: 2})
	answers(t, c, 0, list(), api.Answer{Names: []string{"a"}})
}

// P9.2, OpHeld: chunks of all clients' snapshots, open ones, too, each once, rising by bytes.
func TestHeld(t *testing.T) {
	c := New()
	holds := func(keys ...string) {
		t.Helper()
		for client := range clients {
			answers(t, c, client, held(), api.Answer{Keys: keys})
		}
	}
	holds()
	does(t, c, 0, begin("s"))
	holds()
	does(t, c, 0, add("s", "empty"))
	holds()
	does(t, c, 0, add("s", "a", "z", "a", "z", "\xff"))
	holds("a", "z", "\xff")
	does(t, c, 7, begin("s"), add("s", "a", "aa", "z", "\x00", "B"))
	holds("\x00", "B", "a", "aa", "z", "\xff")
	does(t, c, 7, commit("s"))
	does(t, c, 7, begin("t"), add("t", "b", "é", "a"))
	holds("\x00", "B", "a", "aa", "z", "é", "\xff")
	does(t, c, 0, abort("s"))
	holds("\x00", "B", "a", "aa", "z", "é")
	answers(t, c, 7, prune(1), api.Answer{})
	holds("\x00", "B", "a", "aa", "z", "é")
	answers(t, c, 7, prune(0), api.Answer{N: 1})
	holds("a", "é")
	refuses(t, c, 7, add("t", "b", "new"), twice)
	holds("a", "é")
	does(t, c, 7, abort("t"))
	holds()
}

// wrongOps are operations that may not be by layer 8, each by one thing alone.
func wrongOps() []api.Op {
	var l []api.Op
	for _, kind := range []int{0, 10, 11, -1, -9, 100, 256 + 1, 256 + 5, 1<<32 + 1, 1<<32 + 5, 1<<32 + 8, math.MaxInt, math.MinInt, math.MinInt + 8} {
		for _, o := range []api.Op{{}, {Name: "u"}, {Name: "s", Path: "a"}, {Name: "u", Path: "e", Keys: []string{"x"}}, {N: 1}} {
			o.Kind = kind
			l = append(l, o)
		}
	}
	for _, name := range append(noPaths(), "a/b", "u/a", path(8, "a"), path(2, widest())) {
		l = append(l, begin(name), add(name, "e", "x"), commit(name), abort(name), look(name, "a"), plan(name))
	}
	for _, p := range noPaths() {
		l = append(l, add("u", p), add("u", p, "x"), look("s", p))
	}
	for _, keys := range [][]string{
		{""}, {"x", ""}, {"", "x"}, slices.Repeat([]string{"x"}, keysMax+1), {text("k", keyMax+1)}, {"x", text("k", keyMax+1)}, {text("k", 1<<20)},
		append(fullest(), "x"), slices.Repeat([]string{"x"}, 1<<20), slices.Repeat([]string{""}, keysMax), append(fullest()[1:], ""),
	} {
		l = append(l, add("u", "e", keys...))
	}
	for _, n := range []int{-1, -100, numMax + 1, 128, 256, 1 << 32, 1<<32 + 1, math.MaxInt, math.MinInt, math.MinInt + 1} {
		l = append(l, prune(n))
	}
	return append(l, unaskedFor()...)
}

// unaskedFor are operations that would be done, but for what their kinds don't ask for.
func unaskedFor() []api.Op {
	var l []api.Op
	for _, o := range []api.Op{begin("new"), add("u", "e", "x"), commit("u"), abort("u"), list(), look("s", "a"), plan("s"), prune(0), held()} {
		if o.Name == "" {
			for _, name := range []string{"s", "u", "A", "\xff", text("x", 5000)} {
				bad := o
				bad.Name = name
				l = append(l, bad)
			}
		}
		if o.Path == "" {
			for _, p := range []string{"a", "a/b", "/", "\x00", text("x", 5000)} {
				bad := o
				bad.Path = p
				l = append(l, bad)
			}
		}
		if o.Keys == nil {
			for _, keys := range [][]string{{"x"}, {""}, {"x", "y"}, slices.Repeat([]string{"x"}, 17)} {
				bad := o
				bad.Keys = keys
				l = append(l, bad)
			}
		}
		if o.Kind != 8 {
			for _, n := range []int{1, 2, numMax, -1, numMax + 1, 1 << 32, math.MaxInt, math.MinInt} {
				bad := o
				bad.N = n
				l = append(l, bad)
			}
		}
	}
	return l
}

// P9.2, R3: an operation that may not be, of each field, is refused, and nothing is done.
func TestWrongOps(t *testing.T) {
	for _, c := range []*Catalog{New(), some(t)} {
		for _, o := range wrongOps() {
			refuses(t, c, 0, o, arg)
			if got := c.Do(7, o); toldAnswer(got) != toldAnswer(api.Answer{Code: arg}) {
				t.Errorf("%s: %s", toldOp(7, o), short(toldAnswer(got)))
			}
		}
	}
}

// P9.2, R3: a client that may not be is refused, whatever it asks for.
func TestWrongClients(t *testing.T) {
	c := some(t)
	for _, client := range []int{-1, -2, -8, clients, clients + 1, 100, 128, 256, 1 << 32, 1<<32 + 1, math.MaxInt, math.MinInt, math.MinInt + 1} {
		for _, o := range []api.Op{begin("new"), add("u", "e", "x"), commit("u"), abort("u"), list(), look("s", "a"), plan("s"), prune(0), prune(1), held(), {}, {Kind: 10}} {
			refuses(t, c, client, o, arg)
		}
	}
}

// P9.2: keys that are nil and that are empty are the same operation.
func TestNoKeys(t *testing.T) {
	for _, o := range []api.Op{begin("new"), add("u", "e"), commit("u"), abort("u"), list(), look("s", "a"), plan("s"), prune(0), held()} {
		one, two := some(t), some(t)
		o.Keys = nil
		first := toldAnswer(one.Do(0, o))
		o.Keys = []string{}
		if second := toldAnswer(two.Do(0, o)); first != second || all(one) != all(two) {
			t.Errorf("kind %d without keys: %s, %s", o.Kind, first, second)
		}
	}
}

// saved is a snapshot of the second writing: its files by paths.
type saved struct {
	client int
	name   string
	done   bool
	files  map[string][]string
}

// model is the chapter's text once more.
type model struct{ row []*saved }

var pathForm = regexp.MustCompile(`^[a-z0-9_.\-\x{80}-\x{10ffff}]{1,16}(/[a-z0-9_.\-\x{80}-\x{10ffff}]{1,16}){0,7}$`)

func isPathElsewhere(s string) bool {
	parts := strings.Split(s, "/")
	return utf8.ValidString(s) && !strings.ContainsRune(s, utf8.RuneError) && pathForm.MatchString(s) && !slices.Contains(parts, ".") && !slices.Contains(parts, "..")
}

func mayBeElsewhere(client int, o api.Op) bool {
	name, p, mostKeys, mostN := isPathElsewhere(o.Name) && !strings.Contains(o.Name, "/"), o.Path == "", 0, 0
	switch o.Kind {
	case 1, 3, 4, 7:
	case 2:
		p, mostKeys = isPathElsewhere(o.Path), 16
	case 5, 9:
		name = o.Name == ""
	case 6:
		p = isPathElsewhere(o.Path)
	case 8:
		name, mostN = o.Name == "", 100
	default:
		return false
	}
	bad := func(key string) bool { return key == "" || len(key) > 64 }
	return 0 <= client && client <= 7 && name && p && len(o.Keys) <= mostKeys && !slices.ContainsFunc(o.Keys, bad) && 0 <= o.N && o.N <= mostN
}

// of are a client's, all or only the committed ones.
func (m *model) of(client int, onlyDone bool) []*saved {
	var l []*saved
	for _, s := range m.row {
		if s.client == client && (s.done || !onlyDone) {
			l = append(l, s)
		}
	}
	return l
}

func (m *model) remove(gone []*saved) {
	m.row = slices.DeleteFunc(m.row, func(s *saved) bool { return slices.Contains(gone, s) })
}

func (m *model) do(client int, o api.Op) api.Answer {
	if !mayBeElsewhere(client, o) {
		return api.Answer{Code: 1}
	}
	mine := m.of(client, false)
	var s *saved
	for _, x := range mine {
		if x.name == o.Name {
			s = x
		}
	}
	switch o.Kind {
	case 1:
		if s != nil {
			return api.Answer{Code: 4}
		}
		if len(mine) == 8 {
			return api.Answer{Code: 5}
		}
		m.row = append(m.row, &saved{client: client, name: o.Name, files: map[string][]string{}})
		return api.Answer{}
	case 5:
		var a api.Answer
		for _, x := range m.of(client, true) {
			a.Names = append(a.Names, x.name)
		}
		return a
	case 8:
		done := m.of(client, true)
		gone := done[:max(0, len(done)-o.N)]
		m.remove(gone)
		return api.Answer{N: len(gone)}
	case 9:
		all := map[string]int{}
		for _, x := range m.row {
			for _, keys := range x.files {
				for _, key := range keys {
					all[key]++
				}
			}
		}
		return api.Answer{Keys: slices.Sorted(maps.Keys(all))}
	}
	if s == nil {
		return api.Answer{Code: 3}
	}
	return m.ofOne(s, o)
}

// ofOne does what is asked of a snapshot that is there.
func (m *model) ofOne(s *saved, o api.Op) api.Answer {
	if asksDone := o.Kind == 6 || o.Kind == 7; s.done != asksDone {
		return api.Answer{Code: 6}
	}
	switch o.Kind {
	case 2:
		for p := range s.files {
			if strings.HasPrefix(o.Path+"/", p+"/") || strings.HasPrefix(p+"/", o.Path+"/") {
				return api.Answer{Code: 4}
			}
		}
		if len(s.files) == 32 {
			return api.Answer{Code: 5}
		}
		s.files[o.Path] = slices.Clone(o.Keys)
	case 3:
		s.done = true
	case 4:
		m.remove([]*saved{s})
	case 6:
		keys, ok := s.files[o.Path]
		if !ok {
			return api.Answer{Code: 3}
		}
		return api.Answer{N: len(strings.Join(keys, "")), Keys: keys}
	case 7:
		return api.Answer{Entries: s.entries()}
	}
	return api.Answer{}
}

func (s *saved) entries() []api.Entry {
	var l []api.Entry
	for _, p := range slices.Sorted(maps.Keys(s.files)) {
		l = append(l, entry(p, s.files[p]...))
	}
	return l
}

func (m *model) snaps() []api.Snapshot {
	var l []api.Snapshot
	for _, s := range m.row {
		l = append(l, snap(s.client, s.name, s.done, s.entries()...))
	}
	return l
}

// asked is an operation of a client.
type asked struct {
	client int
	o      api.Op
}

func sameAnswer(a, b api.Answer) bool {
	return a.Code == b.Code && a.N == b.N && slices.Equal(a.Names, b.Names) && slices.Equal(a.Keys, b.Keys) && slices.EqualFunc(a.Entries, b.Entries, sameEntry)
}

func sameEntry(a, b api.Entry) bool {
	return a.Path == b.Path && a.Size == b.Size && slices.Equal(a.Keys, b.Keys)
}

func sameSnaps(a, b []api.Snapshot) bool {
	return slices.EqualFunc(a, b, func(a, b api.Snapshot) bool {
		return a.Client == b.Client && a.Name == b.Name && a.Done == b.Done && slices.EqualFunc(a.Entries, b.Entries, sameEntry)
	})
}

// P9.1, P9.2: all rows of four operations of chosen ones come to what the second writing does.
func TestAllSmallRows(t *testing.T) {
	var chosen []asked
	for _, client := range []int{0, 7} {
		for _, o := range []api.Op{
			begin("s"), begin("t"), add("s", "a", "x"), add("s", "a/b", "y", "x"), add("t", "a0"), commit("s"), abort("s"), look("s", "a"), plan("s"), prune(0), prune(1),
		} {
			chosen = append(chosen, asked{client, o})
		}
	}
	chosen = append(chosen, asked{0, commit("t")}, asked{0, list()}, asked{7, held()}, asked{8, begin("s")}, asked{0, begin("s/t")})
	n := len(chosen)
	for row := range n * n * n * n {
		c, m := New(), &model{}
		// Two snapshots are there at first, so that short rows come far.
		for _, x := range []asked{{0, begin("s")}, {7, begin("s")}} {
			c.Do(x.client, x.o)
			m.do(x.client, x.o)
		}
		rest := row
		for range 4 {
			x := chosen[rest%n]
			rest /= n
			if got, want := c.Do(x.client, x.o), m.do(x.client, x.o); !sameAnswer(got, want) {
				t.Fatalf("row %d, %s: %s, not %s", row, toldOp(x.client, x.o), toldAnswer(got), toldAnswer(want))
			}
		}
		if got, want := c.Snaps(), m.snaps(); !sameSnaps(got, want) {
			t.Fatalf("row %d: %s, not %s", row, toldSnaps(got), toldSnaps(want))
		}
	}
}

// anOp is some operation, from a row of numbers that is always the same; most of them may be, and are of few clients, names and paths.
func anOp(row *rand.Rand) asked {
	names := []string{"a", "b", "c", "d", "e", "f", "g", "h", "i", "é"}
	client := []int{0, 0, 0, 1, 7}[row.Intn(5)]
	name := names[row.Intn(len(names))]
	p := "f" + strconv.Itoa(row.Intn(50))
	switch row.Intn(8) {
	case 0:
		p += "/a"
	case 1:
		p = "f/" + p
	case 2:
		p = "f"
	}
	var keys []string
	if row.Intn(8) == 0 {
		keys = slices.Repeat([]string{text("k", keyMax-row.Intn(2))}, row.Intn(keysMax+1))
	}
	for range row.Intn(min(3, keysMax+1-len(keys))) {
		keys = append(keys, text("k", 1+row.Intn(keyMax)))
	}
	switch x := row.Intn(1000); {
	case x < 60:
		return asked{client, begin(name)}
	case x < 850:
		return asked{client, add(name, p, keys...)}
	case x < 870:
		return asked{client, commit(name)}
	case x < 880:
		return asked{client, abort(name)}
	case x < 900:
		return asked{client, list()}
	case x < 930:
		return asked{client, look(name, p)}
	case x < 950:
		return asked{client, plan(name)}
	case x < 957:
		return asked{client, prune(row.Intn(8))}
	case x < 975:
		return asked{client, held()}
	case x < 980:
		return asked{client - 8 + 16*row.Intn(2), begin(name)}
	case x < 990:
		return asked{client, add(name, p, append(keys, "")...)}
	}
	return asked{client, api.Op{Kind: row.Intn(12), Name: name, N: row.Intn(2)}}
}

// P9.1, P9.2, P9.4: long rows are held against the second writing, operation by operation; each row of the table is come to, with each error that it can have.
func TestLongRows(t *testing.T) {
	seen := map[[2]int]int{}
	for seed := range int64(12) {
		row := rand.New(rand.NewSource(seed))
		c, m := New(), &model{}
		var before []api.Snapshot
		for i := range 1500 {
			x := anOp(row)
			got, want := c.Do(x.client, x.o), m.do(x.client, x.o)
			if !sameAnswer(got, want) {
				t.Fatalf("seed %d, the %d-th, %s: %s, not %s", seed, i, toldOp(x.client, x.o), toldAnswer(got), toldAnswer(want))
			}
			after := c.Snaps()
			if !sameSnaps(after, m.snaps()) {
				t.Fatalf("seed %d, the %d-th, %s: %s, not %s", seed, i, toldOp(x.client, x.o), toldSnaps(after), toldSnaps(m.snaps()))
			}
			if asks := x.o.Kind >= 5 && x.o.Kind != 8; (got.Code != 0 || asks) && !sameSnaps(before, after) {
				t.Fatalf("seed %d, the %d-th, %s: told %d, and changed", seed, i, toldOp(x.client, x.o), got.Code)
			}
			before = after
			seen[[2]int{x.o.Kind, got.Code}]++
		}
	}
	for _, kind := range [][]int{{1, 0, arg, twice, full}, {2, 0, arg, none, twice, full, state}, {3, 0, none, state}, {4, 0, none, state}, {5, 0}, {6, 0, none, state}, {7, 0, none, state}, {8, 0}, {9, 0}} {
		for _, code := range kind[1:] {
			if seen[[2]int{kind[0], code}] < 10 {
				t.Errorf("kind %d came to %d only %d times", kind[0], code, seen[[2]int{kind[0], code}])
			}
		}
	}
}

// P9.1: From of what Snaps told goes on as the catalog itself does.
func TestFromGoesOn(t *testing.T) {
	for seed := range int64(8) {
		row := rand.New(rand.NewSource(100 + seed))
		c := New()
		for range 8 {
			for range 100 {
				x := anOp(row)
				c.Do(x.client, x.o)
			}
			other := from(t, c.Snaps()...)
			if all(c) != all(other) {
				t.Fatalf("seed %d: of %s came %s", seed, short(all(c)), short(all(other)))
			}
			kept := all(c)
			third := from(t, c.Snaps()...)
			for range 200 {
				x := anOp(row)
				if one, two := c.Do(x.client, x.o), other.Do(x.client, x.o); !sameAnswer(one, two) {
					t.Fatalf("seed %d, %s: %s, and %s", seed, toldOp(x.client, x.o), toldAnswer(one), toldAnswer(two))
				}
			}
			if !sameSnaps(c.Snaps(), other.Snaps()) {
				t.Fatalf("seed %d: %s, and %s", seed, short(toldSnaps(c.Snaps())), short(toldSnaps(other.Snaps())))
			}
			// And goes its own way: what is done to the one isn't done to another.
			if all(third) != kept {
				t.Fatalf("seed %d: a catalog that did nothing became %s", seed, short(all(third)))
			}
		}
	}
}

func only(client int, l []api.Snapshot) []api.Snapshot {
	return slices.DeleteFunc(l, func(s api.Snapshot) bool { return s.Client != client })
}

// P9.4: a client's operations change nothing of another one's: of its own alone comes the same.
func TestClientsApart(t *testing.T) {
	for seed := range int64(20) {
		row := rand.New(rand.NewSource(200 + seed))
		c := New()
		alone := map[int]*Catalog{}
		for range 2000 {
			x := anOp(row)
			if alone[x.client] == nil {
				alone[x.client] = New()
			}
			one, two := c.Do(x.client, x.o), alone[x.client].Do(x.client, x.o)
			// OpHeld alone tells of others.
			if x.o.Kind != 9 && !sameAnswer(one, two) {
				t.Fatalf("seed %d, %s: %s, alone %s", seed, toldOp(x.client, x.o), toldAnswer(one), toldAnswer(two))
			}
		}
		for client, other := range alone {
			if !sameSnaps(only(client, c.Snaps()), other.Snaps()) {
				t.Fatalf("seed %d, client %d: %s, alone %s", seed, client, short(toldSnaps(only(client, c.Snaps()))), short(toldSnaps(other.Snaps())))
			}
		}
	}
}

// P9.4: what was begun, added to and aborted left no trace, though others do something meanwhile.
func TestNoTrace(t *testing.T) {
	traced := 0
	for seed := range int64(12) {
		row := rand.New(rand.NewSource(300 + seed))
		c, without := New(), New()
		for range 60 {
			for range 20 {
				x := anOp(row)
				if one, two := c.Do(x.client, x.o), without.Do(x.client, x.o); !sameAnswer(one, two) {
					t.Fatalf("seed %d, %s: %s, without it %s", seed, toldOp(x.client, x.o), toldAnswer(one), toldAnswer(two))
				}
			}
			if c.Do(0, begin("x")).Code != 0 {
				continue
			}
			traced++
			for range row.Intn(40) {
				x := anOp(row)
				if x.client == 0 {
					x.o.Name = "x"
					if x.o.Kind == 2 {
						c.Do(0, x.o)
					}
					continue
				}
				c.Do(x.client, x.o)
				without.Do(x.client, x.o)
			}
			does(t, c, 0, abort("x"))
			if all(c) != all(without) {
				t.Fatalf("seed %d: %s, without it %s", seed, short(all(c)), short(all(without)))
			}
		}
	}
	if traced < 100 {
		t.Errorf("only %d were begun", traced)
	}
}

// P9.4: what was committed is planned as it was added, whatever is done beside it, until it is pruned.
func TestPlannedAsAdded(t *testing.T) {
	for seed := range int64(20) {
		row := rand.New(rand.NewSource(400 + seed))
		c := New()
		does(t, c, 0, begin("kept"))
		var want []api.Entry
		for i := range row.Intn(filesMax + 1) {
			e := entry(fmt.Sprintf("d%d/f%d", i%3, i), slices.Repeat([]string{text("q", 1+i)}, row.Intn(keysMax+1))...)
			does(t, c, 0, add("kept", e.Path, e.Keys...))
			want = append(want, e)
		}
		slices.SortFunc(want, func(a, b api.Entry) int { return strings.Compare(a.Path, b.Path) })
		does(t, c, 0, commit("kept"))
		for range 1000 {
			x := anOp(row)
			if x.client == 0 && x.o.Kind == 8 {
				continue
			}
			c.Do(x.client, x.o)
		}
		for _, o := range []api.Op{begin("kept"), add("kept", "new"), add("kept", "d0/f0"), commit("kept"), abort("kept"), look("kept", "new"), {Kind: 7, Name: "kept", N: 1}, prune(-1), prune(101)} {
			if a := c.Do(0, o); a.Code == 0 {
				t.Errorf("%s was done", toldOp(0, o))
			}
		}
		answers(t, c, 0, prune(8), api.Answer{})
		answers(t, c, 0, plan("kept"), api.Answer{Entries: want})
		for _, e := range want {
			answers(t, c, 0, look("kept", e.Path), api.Answer{N: e.Size, Keys: e.Keys})
		}
		done := len(c.Do(0, list()).Names)
		answers(t, c, 0, prune(done-1), api.Answer{N: 1})
		refuses(t, c, 0, plan("kept"), none)
	}
}

// textOn is a text that lies on b: a change of b changes it.
func textOn(b []byte) string { return unsafe.String(unsafe.SliceData(b), len(b)) }

// bytesOf are the bytes that a text lies on.
func bytesOf(s string) []byte { return unsafe.Slice(unsafe.StringData(s), len(s)) }

// onBytes is a copy of a text that may be changed.
func onBytes(s string) string { return textOn([]byte(s)) }

// changeText changes all bytes of a text that lies on some.
func changeText(s string) {
	b := bytesOf(s)
	for i := range b {
		b[i] ^= 0x15
	}
}

// textsOf are all texts of snapshots.
func textsOf(l []api.Snapshot) []string {
	var texts []string
	for _, s := range l {
		texts = append(texts, s.Name)
		texts = append(texts, textsOfEntries(s.Entries)...)
	}
	return texts
}

func textsOfEntries(l []api.Entry) []string {
	var texts []string
	for _, e := range l {
		texts = append(append(texts, e.Path), e.Keys...)
	}
	return texts
}

// changeable are snapshots whose lists have more behind their ends, and whose texts lie on bytes.
func changeable(l []api.Snapshot) []api.Snapshot {
	out := make([]api.Snapshot, 0, len(l)+2)
	for _, s := range l {
		entries := make([]api.Entry, 0, len(s.Entries)+2)
		for _, e := range s.Entries {
			keys := make([]string, 0, len(e.Keys)+2)
			for _, key := range e.Keys {
				keys = append(keys, onBytes(key))
			}
			copy(keys[len(keys):cap(keys)], []string{"behind", "it"})
			entries = append(entries, api.Entry{Path: onBytes(e.Path), Size: e.Size, Keys: keys})
		}
		copy(entries[len(entries):cap(entries)], []api.Entry{entry("behind", "it"), entry("it")})
		out = append(out, snap(s.Client, onBytes(s.Name), s.Done, entries...))
	}
	copy(out[len(out):cap(out)], []api.Snapshot{snap(1, "behind", true), snap(2, "it", false)})
	return out
}

// behind are snapshots with all that their lists have behind their ends.
func behind(l []api.Snapshot) []api.Snapshot {
	l = slices.Clone(l[:cap(l)])
	for i, s := range l {
		s.Entries = slices.Clone(s.Entries[:cap(s.Entries)])
		for j := range s.Entries {
			s.Entries[j].Keys = s.Entries[j].Keys[:cap(s.Entries[j].Keys)]
		}
		l[i].Entries = s.Entries
	}
	return l
}

// spoil changes snapshots, their lists and their texts, wherever there is memory of theirs.
func spoil(l []api.Snapshot) {
	for i := range l {
		spoilEntries(l[i].Entries)
		changeText(l[i].Name)
		l[i] = snap(5, "spoilt", !l[i].Done, entry("spoilt", "spoilt"))
	}
	_ = append(l, snap(6, "appended", true))
}

func spoilEntries(l []api.Entry) {
	for i := range l {
		spoilTexts(l[i].Keys)
		changeText(l[i].Path)
		l[i] = entry("spoilt", "spoilt")
	}
	_ = append(l, entry("appended"))
}

func spoilTexts(l []string) {
	for i := range l {
		changeText(l[i])
		l[i] = "spoilt"
	}
	_ = append(l, "appended")
}

func lists() [][]api.Snapshot {
	row := rand.New(rand.NewSource(500))
	c := New()
	for range 600 {
		x := anOp(row)
		c.Do(x.client, x.o)
	}
	return [][]api.Snapshot{
		nil,
		{snap(0, "s", true)},
		{snap(0, "s", true, entry("a", "xy", "z"), entry("b/c")), snap(7, "s", false, entry("a", "q", "qq")), snap(0, "u", false, entry("d", "w"))},
		{snap(3, widest(), true, entry(path(8, widest()), fullest()...))},
		c.Snaps(),
	}
}

// P9.3, R2: snapshots that are handed in stay as they are, what their lists have behind their ends, too.
func TestFromLeavesSnapsAsTheyAre(t *testing.T) {
	for _, l := range lists() {
		for _, wrong := range []bool{false, true} {
			in := changeable(l)
			if wrong {
				in = append(in[:len(in):len(in)], snap(0, "/", true))
			}
			kept := toldSnaps(behind(in))
			c, err := From(in)
			if wrong != (err != nil) {
				t.Fatal(err)
			}
			if c != nil {
				c.Do(0, add("u", "e", "x"))
				c.Do(0, prune(0))
				all(c)
			}
			if now := toldSnaps(behind(in)); now != kept {
				t.Errorf("%s became %s", short(kept), short(now))
			}
		}
	}
}

// P9.3, R2: snapshots that were handed in may be changed behind the call.
func TestFromKeepsNothing(t *testing.T) {
	for _, l := range lists() {
		want := all(from(t, l...))
		in := changeable(l)
		c := from(t, in...)
		spoil(in)
		if got := all(c); got != want {
			t.Errorf("%s became %s", short(want), short(got))
		}
	}
}

// P9.3, R2: operations that are handed in stay as they are, and may be changed behind the call.
func TestOpsAreNotKept(t *testing.T) {
	for _, o := range []api.Op{
		begin("new"), begin("s"), begin(widest()), add("u", "e", "xy", "z"), add("u", "c", "x"), add("u", "e/f/g"), add("u", path(8, widest()), fullest()...), add("u", "d", "x"),
		commit("u"), abort("u"), commit("s"), look("s", "a"), look("s", "new"), plan("s"), plan("u"), add("u", "A", "x"), add("u", "e", "x", ""), list(), prune(1), held(),
	} {
		plain, c := some(t), some(t)
		want := toldAnswer(plain.Do(0, o))
		keys := make([]string, 0, len(o.Keys)+2)
		for _, key := range o.Keys {
			keys = append(keys, onBytes(key))
		}
		copy(keys[len(keys):cap(keys)], []string{"behind", "it"})
		in := api.Op{Kind: o.Kind, Name: onBytes(o.Name), Path: onBytes(o.Path), Keys: keys, N: o.N}
		answer := c.Do(0, in)
		in.Keys = keys[:cap(keys)]
		o.Keys = append(slices.Clone(o.Keys), "behind", "it")
		if toldOp(0, in) != toldOp(0, o) {
			t.Errorf("%s became %s", toldOp(0, o), toldOp(0, in))
		}
		for _, s := range append(keys, in.Name, in.Path) {
			changeText(s)
		}
		for i := range keys {
			keys[i] = "spoilt"
		}
		if got := toldAnswer(answer); got != want {
			t.Errorf("%s: %s became %s", toldOp(0, o), want, got)
		}
		if all(c) != all(plain) {
			t.Errorf("%s: %s became %s", toldOp(0, o), short(all(plain)), short(all(c)))
		}
	}
}

// P9.3, R2: snapshots and answers that were told may be changed; what is told again, and what others were told, is as it was.
func TestToldIsNew(t *testing.T) {
	for _, l := range lists() {
		c := from(t, l...)
		want := all(c)
		one, two := c.Snaps(), c.Snaps()
		spoil(one)
		if toldSnaps(two) != toldSnaps(l) || all(c) != want {
			t.Errorf("a change of what was told made %s of %s", short(toldSnaps(two)), short(toldSnaps(l)))
		}
		ops := []asked{{0, held()}, {7, held()}}
		for client := range clients {
			ops = append(ops, asked{client, list()})
		}
		for _, s := range l {
			ops = append(ops, asked{s.Client, plan(s.Name)})
			for _, e := range s.Entries {
				ops = append(ops, asked{s.Client, look(s.Name, e.Path)})
			}
		}
		for _, x := range ops {
			one, two := c.Do(x.client, x.o), c.Do(x.client, x.o)
			kept := toldAnswer(two)
			spoilTexts(one.Names)
			spoilTexts(one.Keys)
			spoilEntries(one.Entries)
			if toldAnswer(two) != kept {
				t.Errorf("%s: a change of what was told made %s of %s", toldOp(x.client, x.o), short(toldAnswer(two)), short(kept))
			}
			answers(t, c, x.client, x.o, two)
		}
		if got := all(c); got != want {
			t.Errorf("changes of what was told made %s of %s", short(got), short(want))
		}
	}
}

// P9.3: what was told isn't changed by what is done behind it.
func TestToldStays(t *testing.T) {
	for seed := range int64(10) {
		row := rand.New(rand.NewSource(600 + seed))
		c := New()
		for range 20 {
			for range 100 {
				x := anOp(row)
				c.Do(x.client, x.o)
			}
			snaps, keys := c.Snaps(), c.Do(0, held())
			keptSnaps, keptKeys := toldSnaps(snaps), toldAnswer(keys)
			for range 100 {
				x := anOp(row)
				c.Do(x.client, x.o)
			}
			if toldSnaps(snaps) != keptSnaps || toldAnswer(keys) != keptKeys {
				t.Fatalf("seed %d: what was told was changed", seed)
			}
		}
	}
}

// span is the memory that something lies on.
type span struct{ from, to uintptr }

func spanOf[T any](l []T) span {
	var one T
	from := uintptr(unsafe.Pointer(unsafe.SliceData(l)))
	return span{from, from + uintptr(cap(l))*unsafe.Sizeof(one)}
}

// spans are the memory of snapshots: each list's, what is behind its end, too, and each text's.
func spans(l []api.Snapshot) []span {
	out := []span{spanOf(l)}
	for _, s := range l {
		out = append(out, spanOf(bytesOf(s.Name)), spanOf(s.Entries))
		for _, e := range s.Entries {
			out = append(out, spanOf(bytesOf(e.Path)), spanOf(e.Keys))
			for _, key := range e.Keys {
				out = append(out, spanOf(bytesOf(key)))
			}
		}
	}
	return out
}

// shares tells whether two of these have memory in common.
func shares(l []span) bool {
	l = slices.DeleteFunc(l, func(s span) bool { return s.from == s.to })
	slices.SortFunc(l, func(a, b span) int {
		if a.from < b.from {
			return -1
		}
		return 1
	})
	for i := 1; i < len(l); i++ {
		if l[i].from < l[i-1].to {
			return true
		}
	}
	return false
}

// P9.3, R2: what is told shares no memory with what was handed in, with the catalog, with what was told ahead of it, or with another list of the same answer.
func TestMemoryApart(t *testing.T) {
	for _, l := range lists() {
		in := changeable(l)
		c := from(t, in...)
		told := [][]api.Snapshot{in, c.snaps, c.Snaps(), c.Snaps()}
		for _, s := range l {
			if !s.Done {
				continue
			}
			told = append(told, []api.Snapshot{{Entries: c.Do(s.Client, plan(s.Name)).Entries}})
			for _, e := range s.Entries {
				told = append(told, []api.Snapshot{{Entries: []api.Entry{{Keys: c.Do(s.Client, look(s.Name, e.Path)).Keys}}}})
			}
		}
		for client := range clients {
			told = append(told, []api.Snapshot{{Entries: []api.Entry{{Keys: c.Do(client, held()).Keys}, {Keys: c.Do(client, list()).Names}}}})
		}
		var all []span
		for _, x := range told {
			all = append(all, spans(x)...)
		}
		if shares(all) {
			t.Errorf("memory is shared: %s", short(toldSnaps(l)))
		}
	}
	if one := []string{"a"}; !shares([]span{spanOf(one), spanOf(one)}) {
		t.Error("what is shared isn't found")
	}
}

// P9.3: operations' texts and keys are copied as they come in.
func TestMemoryOfOps(t *testing.T) {
	c := New()
	in := []api.Snapshot{snap(0, onBytes("new"), false, entry(onBytes("b/c"), onBytes("xy"), onBytes("z")), entry(onBytes("a"), onBytes("xy")))}
	does(t, c, 0, begin(in[0].Name))
	for _, e := range in[0].Entries {
		does(t, c, 0, add(in[0].Name, e.Path, e.Keys...))
	}
	if shares(append(spans(in), spans(c.snaps)...)) {
		t.Error("memory is shared")
	}
	for _, s := range textsOf(in) {
		changeText(s)
	}
	has(t, c, snap(0, "new", false, entry("a", "xy"), entry("b/c", "xy", "z")))
}
