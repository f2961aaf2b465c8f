package image

import (
	"bytes"
	"encoding/binary"
	"fmt"
	"math"
	"math/rand"
	"regexp"
	"slices"
	"strconv"
	"strings"
	"testing"
	"unicode/utf8"
	"unsafe"

	"becket/api"
	"becket/catalog"
)

// The limits, written out.
const (
	clients  = 8
	snapsMax = 8
	filesMax = 32
	fileMax  = 1024
	keysMax  = 16
	keyMax   = 64
)

func text(s string, n int) string { return strings.Repeat(s, n) }

// path is one of n parts.
func path(n int, part string) string { return strings.Join(slices.Repeat([]string{part}, n), "/") }

// widest is a part of as many bytes as can be.
func widest() string { return text("\U0001f600", 16) }

// fullest are chunks of MaxFile bytes together.
func fullest() []string { return slices.Repeat([]string{text("k", keyMax)}, keysMax) }

// allBytes are chunks that have, together, every byte there is.
func allBytes() []string {
	var keys []string
	for i := range 256 / keyMax {
		key := make([]byte, keyMax)
		for j := range key {
			key[j] = byte(i*keyMax + j)
		}
		keys = append(keys, string(key))
	}
	return keys
}

func entry(path string, keys ...string) api.Entry {
	return api.Entry{Path: path, Size: len(strings.Join(keys, "")), Keys: keys}
}

func snap(client int, name string, done bool, entries ...api.Entry) api.Snapshot {
	return api.Snapshot{Client: client, Name: name, Done: done, Entries: entries}
}

// files are n entries of one chunk each.
func files(n int) []api.Entry {
	var l []api.Entry
	for i := range n {
		l = append(l, entry(fmt.Sprintf("f%04d", i), strconv.Itoa(i)))
	}
	return l
}

// row are n snapshots of a client.
func row(client, n int) []api.Snapshot {
	var l []api.Snapshot
	for i := range n {
		l = append(l, snap(client, "s"+strconv.Itoa(i), i%2 == 0, files(i%3)...))
	}
	return l
}

func short(s string) string { return s[:min(len(s), 300)] }

// show tells bytes in a line that isn't too long.
func show(b []byte) string { return short(fmt.Sprintf("%x", b)) }

// told are snapshots as a text; lists of no elements are the same, nil or not.
func told(l []api.Snapshot) string {
	var b strings.Builder
	for _, s := range l {
		fmt.Fprintf(&b, "%d %+q %v", s.Client, s.Name, s.Done)
		for _, e := range s.Entries {
			fmt.Fprintf(&b, " (%+q %d %+q)", e.Path, e.Size, e.Keys)
		}
		b.WriteString("\n")
	}
	return b.String()
}

func sameSnaps(a, b []api.Snapshot) bool {
	return slices.EqualFunc(a, b, func(a, b api.Snapshot) bool {
		return a.Client == b.Client && a.Name == b.Name && a.Done == b.Done && slices.EqualFunc(a.Entries, b.Entries, sameEntry)
	})
}

func sameEntry(a, b api.Entry) bool {
	return a.Path == b.Path && a.Size == b.Size && slices.Equal(a.Keys, b.Keys)
}

func from(t *testing.T, l ...api.Snapshot) *catalog.Catalog {
	t.Helper()
	c, err := catalog.From(l)
	if c == nil || err != nil {
		t.Fatalf("From(%s) = %v, %v", short(told(l)), c, err)
	}
	return c
}

// isNew holds that a catalog is one without snapshots.
func isNew(t *testing.T, c *catalog.Catalog) {
	t.Helper()
	if c == nil || len(c.Snaps()) > 0 {
		t.Error("it isn't a new one")
	}
}

// some are a few snapshots, open and committed, of clients 0, 1 and 7.
func some() []api.Snapshot {
	return []api.Snapshot{
		snap(0, "s", true, entry("a", "xy", "z"), entry("b/c")),
		snap(7, "s", false, entry("a", "q")),
		snap(0, "u", false, entry("d", "w")),
		snap(1, "v", true),
		snap(0, "t", true, entry("a/b", "xy")),
	}
}

// ofAll are MaxSnaps snapshots of each client, one client's behind the other's.
func ofAll() []api.Snapshot {
	var l []api.Snapshot
	for client := range clients {
		l = append(l, row(client, snapsMax)...)
	}
	return l
}

// mixed are MaxSnaps snapshots of each client, all clients' by turns.
func mixed() []api.Snapshot {
	var l []api.Snapshot
	for i := range snapsMax {
		for client := range clients {
			l = append(l, row((client*3+i)%clients, snapsMax)[i])
		}
	}
	return l
}

// entriesOf are entries of no, one and MaxKeys chunks, of the chunks' and the sizes' edges.
func entriesOf() []api.Entry {
	return []api.Entry{
		entry("a"),
		{Path: "a", Keys: []string{}},
		entry("a", "x"),
		entry("a", "\x00"),
		entry("a", "\xff", "\x80\x80", "\xc3", "\xa9"),
		entry("a", "x", "x"),
		entry("a", text("k", keyMax-1)),
		entry("a", text("k", keyMax)),
		entry("a", text("k", keyMax), text("k", keyMax-1)),
		entry("a", text("k", keyMax), text("k", keyMax)),
		entry("a", slices.Repeat([]string{"x"}, keysMax-1)...),
		entry("a", slices.Repeat([]string{"x"}, keysMax)...),
		entry("a", allBytes()...),
		entry("a", fullest()[1:]...),
		entry("a", append(fullest()[1:], text("k", keyMax-1))...),
		entry("a", fullest()...),
	}
}

// small are snapshots of catalogs that have few bytes.
func small() [][]api.Snapshot {
	l := [][]api.Snapshot{
		nil,
		{},
		some(),
		row(0, snapsMax),
		row(7, snapsMax),
		row(3, snapsMax-1),
		slices.Concat(row(1, 2), row(0, 2), row(7, 2)),
		{snap(7, "b", false), snap(0, "b", true), snap(7, "a", true), snap(3, "b", false)},
		{snap(0, "a", true), snap(0, "aa", true), snap(0, "a.", false), snap(0, "é", true)},
		{snap(2, text("x", 16), true), snap(2, widest(), true), snap(2, "...", false), snap(2, "0", true)},
		{snap(1, "s", true, entry("a-b", "x"), entry("a/c", "x"), entry("a0", "x"))},
		{snap(1, "s", true, entry(path(8, "a")), entry(path(7, "a")+"/b"), entry("b"))},
		{snap(6, widest(), true, entry("日本/é/x.tar", "x"), entry(path(8, widest()), fullest()...))},
		{snap(5, "s", true, files(filesMax-1)...)},
		{snap(5, "s", false, files(filesMax)...), snap(4, "s", true, files(filesMax)...)},
	}
	for client := range clients {
		l = append(l, []api.Snapshot{snap(client, "s", true)}, []api.Snapshot{snap(client, "s", false)})
		l = append(l, []api.Snapshot{snap(client, "s", true, entry("a", "xy"))}, []api.Snapshot{snap(client, "s", false, entry("a", "xy"))})
	}
	for _, e := range entriesOf() {
		l = append(l, []api.Snapshot{snap(2, "s", true, e)})
	}
	return l
}

// fullSnaps are as many snapshots, entries, chunks and bytes as a catalog can have.
func fullSnaps() []api.Snapshot {
	var l []api.Snapshot
	for i := range snapsMax {
		for client := range clients {
			s := snap(client, strconv.Itoa(i)+widest()[4:], (i+client)%2 == 0)
			for j := range filesMax {
				var keys []string
				for k := range keysMax {
					keys = append(keys, fmt.Sprintf("%064d", ((i*clients+client)*filesMax+j)*keysMax+k))
				}
				s.Entries = append(s.Entries, entry(path(7, widest())+"/"+text("\U0001f600", 14)+fmt.Sprintf("%02d", j), keys...))
			}
			l = append(l, s)
		}
	}
	return l
}

// all are snapshots of catalogs, of many bytes, too.
func all() [][]api.Snapshot { return append(small(), ofAll(), mixed(), fullSnaps()) }

// piece is one number, or the bytes of one text, of a catalog's bytes.
type piece struct {
	b      []byte
	number bool
}

// piecesElsewhere are a catalog's bytes by the library's own writer; of snapshots that can be no catalog's, too.
func piecesElsewhere(l []api.Snapshot) []piece {
	var out []piece
	num := func(n int) { out = append(out, piece{binary.AppendUvarint(nil, uint64(n)), true}) }
	text := func(s string) {
		num(len(s))
		out = append(out, piece{[]byte(s), false})
	}
	num(len(l))
	for _, s := range l {
		num(s.Client)
		text(s.Name)
		num(map[bool]int{true: 1}[s.Done])
		num(len(s.Entries))
		for _, e := range s.Entries {
			text(e.Path)
			num(e.Size)
			num(len(e.Keys))
			for _, key := range e.Keys {
				text(key)
			}
		}
	}
	return out
}

func joined(l []piece) []byte {
	var b []byte
	for _, p := range l {
		b = append(b, p.b...)
	}
	return b
}

func bytesElsewhere(l []api.Snapshot) []byte { return joined(piecesElsewhere(l)) }

// only are a client's snapshots.
func only(client int, l []api.Snapshot) []api.Snapshot {
	var own []api.Snapshot
	for _, s := range l {
		if s.Client == client {
			own = append(own, s)
		}
	}
	return own
}

// partsElsewhere are the parts, each by the second writing.
func partsElsewhere(l []api.Snapshot) []string {
	var parts []string
	for client := range clients {
		parts = append(parts, string(bytesElsewhere(only(client, l))))
	}
	return parts
}

var pathForm = regexp.MustCompile(`^[a-z0-9_.\-\x{80}-\x{10ffff}]{1,16}(/[a-z0-9_.\-\x{80}-\x{10ffff}]{1,16}){0,7}$`)

func isPathElsewhere(s string) bool {
	parts := strings.Split(s, "/")
	return utf8.ValidString(s) && !strings.ContainsRune(s, utf8.RuneError) && pathForm.MatchString(s) && !slices.Contains(parts, ".") && !slices.Contains(parts, "..")
}

// isCatalogElsewhere tells what catalog.From lets be, by its chapter's text once more.
func isCatalogElsewhere(l []api.Snapshot) bool {
	count := map[int]int{}
	names := map[string]int{}
	for _, s := range l {
		name := strconv.Itoa(s.Client) + " " + s.Name
		count[s.Client]++
		names[name]++
		if s.Client < 0 || s.Client > 7 || count[s.Client] > 8 || names[name] > 1 || !isPathElsewhere(s.Name) || strings.Contains(s.Name, "/") || !areEntriesElsewhere(s.Entries) {
			return false
		}
	}
	return true
}

func areEntriesElsewhere(l []api.Entry) bool {
	for i, e := range l {
		if !isPathElsewhere(e.Path) || len(e.Keys) > 16 || len(strings.Join(e.Keys, "")) != e.Size || e.Size > 1024 {
			return false
		}
		if slices.ContainsFunc(e.Keys, func(key string) bool { return key == "" || len(key) > 64 }) {
			return false
		}
		for _, ahead := range l[:i] {
			if ahead.Path >= e.Path || strings.HasPrefix(e.Path, ahead.Path+"/") {
				return false
			}
		}
	}
	return len(l) <= 32
}

// input are bytes that are read by the library's own reader; none are left, once something isn't there.
type input struct {
	rest   []byte
	failed bool
}

func (in *input) fail() { *in = input{failed: true} }

// num is a number that may be any up to what an int of 64 bits holds.
func (in *input) num() int {
	n, size := binary.Uvarint(in.rest)
	if size <= 0 || n > math.MaxInt64 {
		in.fail()
		return 0
	}
	in.rest = in.rest[size:]
	return int(n)
}

func (in *input) text() string {
	n := in.num()
	if n > len(in.rest) {
		in.fail()
		return ""
	}
	s := string(in.rest[:n])
	in.rest = in.rest[n:]
	return s
}

// list reads as many as it tells, while there are bytes.
func (in *input) list(one func()) {
	for n := in.num(); n > 0 && !in.failed; n-- {
		one()
	}
}

// getElsewhere are a catalog's snapshots by the library's own reader; false, if the bytes are no catalog's.
func getElsewhere(b []byte) ([]api.Snapshot, bool) {
	var l []api.Snapshot
	in := &input{rest: b}
	ok := true
	in.list(func() {
		s := api.Snapshot{Client: in.num(), Name: in.text()}
		done := in.num()
		s.Done = done == 1
		ok = ok && done <= 1
		in.list(func() {
			e := api.Entry{Path: in.text(), Size: in.num()}
			in.list(func() { e.Keys = append(e.Keys, in.text()) })
			s.Entries = append(s.Entries, e)
		})
		l = append(l, s)
	})
	// A number in too many bytes would be written in fewer.
	if !ok || in.failed || len(in.rest) > 0 || !isCatalogElsewhere(l) || !bytes.Equal(bytesElsewhere(l), b) {
		return nil, false
	}
	return l, true
}

// holdBytes: of bytes Get tells what the second writing does, and what was got is put as these bytes. It tells whether there is a catalog.
func holdBytes(t *testing.T, b []byte) bool {
	t.Helper()
	want, ok := getElsewhere(b)
	if !ok {
		notBytes(t, "the second writing has none", b)
		return false
	}
	c, err := Get(b)
	if c == nil || err != nil {
		t.Fatalf("Get(%s) = %v, %v", show(b), c, err)
	}
	if got := c.Snaps(); !sameSnaps(got, want) {
		t.Fatalf("Get(%s): %s, not %s", show(b), short(told(got)), short(told(want)))
	}
	if again, err := Put(c); !bytes.Equal(again, b) || err != nil {
		t.Fatalf("%s was got, %s, %v is put", show(b), show(again), err)
	}
	return true
}

// notBytes holds that bytes are no catalog's: ErrForm itself, and nothing beside it.
func notBytes(t *testing.T, why string, b []byte) {
	t.Helper()
	if c, err := Get(b); c != nil || err != api.ErrForm {
		t.Fatalf("%s: Get(%s) = %v, %v", why, show(b), c, err)
	}
}

// P10.1, P10.2: a new catalog is a zero, and a zero is a new catalog.
func TestNew(t *testing.T) {
	for _, c := range []*catalog.Catalog{catalog.New(), from(t), from(t, []api.Snapshot{}...)} {
		if b, err := Put(c); string(b) != "\x00" || err != nil {
			t.Errorf("Put = %x, %v", b, err)
		}
		parts, err := Parts(c)
		if !slices.Equal(parts, slices.Repeat([]string{"\x00"}, 8)) || err != nil {
			t.Errorf("Parts = %q, %v", parts, err)
		}
	}
	c, err := Get([]byte{0})
	if err != nil {
		t.Fatal(err)
	}
	isNew(t, c)
	other, _ := Get([]byte{0})
	if a := c.Do(3, api.Op{Kind: api.OpBegin, Name: "s"}); a.Code != 0 {
		t.Errorf("a begin is answered %d", a.Code)
	}
	isNew(t, other)
	if b, err := Put(c); string(b) != "\x01\x03\x01s\x00\x00" || err != nil {
		t.Errorf("Put = %x, %v", b, err)
	}
}

type put struct {
	l []api.Snapshot
	b string
}

// written are snapshots, and their catalog's bytes as written by hand.
func written() []put {
	long := text("k", 64)
	l := []put{
		{nil, "\x00"},
		{[]api.Snapshot{snap(0, "s", false)}, "\x01\x00\x01s\x00\x00"},
		{[]api.Snapshot{snap(0, "s", true)}, "\x01\x00\x01s\x01\x00"},
		{[]api.Snapshot{snap(7, "é", false)}, "\x01\x07\x02é\x00\x00"},
		{[]api.Snapshot{snap(2, "s", true, entry("a", "xy"))}, "\x01\x02\x01s\x01\x01\x01a\x02\x01\x02xy"},
		{[]api.Snapshot{snap(2, "s", false, entry("a"))}, "\x01\x02\x01s\x00\x01\x01a\x00\x00"},
		{[]api.Snapshot{snap(3, "s-1", true, entry("a/b.c", "\x00", "\xff\x80"), entry("日"))}, "\x01\x03\x03s-1\x01\x02\x05a/b.c\x03\x02\x01\x00\x02\xff\x80\x03日\x00\x00"},
		{[]api.Snapshot{snap(1, "b", true), snap(0, "b", false, entry("a", "x")), snap(1, "a", false)}, "\x03\x01\x01b\x01\x00\x00\x01b\x00\x01\x01a\x01\x01\x01x\x01\x01a\x00\x00"},
		{[]api.Snapshot{snap(4, "s", true, entry("a", long, long))}, "\x01\x04\x01s\x01\x01\x01a\x80\x01\x02\x40" + long + "\x40" + long},
		{[]api.Snapshot{snap(4, "s", true, entry("a", long, long[1:]))}, "\x01\x04\x01s\x01\x01\x01a\x7f\x02\x40" + long + "\x3f" + long[1:]},
		{[]api.Snapshot{snap(5, widest(), true, entry(path(8, widest()), fullest()...))}, "\x01\x05\x40" + widest() + "\x01\x01\x87\x04" + path(8, widest()) + "\x80\x08\x10" + text("\x40"+long, 16)},
	}
	var every []api.Snapshot
	b := "\x40"
	for client := range clients {
		for i := range snapsMax {
			every = append(every, snap(client, string(rune('a'+i)), i%2 == 1))
			b += string(rune(client)) + "\x01" + string(rune('a'+i)) + string(rune(i%2)) + "\x00"
		}
	}
	var most []api.Entry
	entries := ""
	for i := range filesMax {
		most = append(most, entry("f"+string(rune('0'+i/10))+string(rune('0'+i%10)), "x"))
		entries += "\x03f" + string(rune('0'+i/10)) + string(rune('0'+i%10)) + "\x01\x01\x01x"
	}
	return append(l, put{every, b}, put{[]api.Snapshot{snap(6, "s", true, most...)}, "\x01\x06\x01s\x01\x20" + entries})
}

// P10.1, P10.2: the chapter's example, and bytes written by hand.
func TestWrittenByHand(t *testing.T) {
	for _, x := range written() {
		if b, err := Put(from(t, x.l...)); string(b) != x.b || err != nil {
			t.Errorf("Put(%s) = %s, %v", short(told(x.l)), show(b), err)
		}
		c, err := Get([]byte(x.b))
		if err != nil {
			t.Errorf("Get(%s) = %v", show([]byte(x.b)), err)
		} else if got := told(c.Snaps()); got != told(x.l) {
			t.Errorf("Get(%s): %s", show([]byte(x.b)), short(got))
		}
	}
}

// P10.1, P10.2, P10.4: catalogs of all kinds are put as the second writing says, and got as they were, again and again.
func TestThereAndBack(t *testing.T) {
	for _, l := range all() {
		want := bytesElsewhere(l)
		now := from(t, l...)
		for range 3 {
			b, err := Put(now)
			if !bytes.Equal(b, want) || err != nil {
				t.Fatalf("Put(%s) = %s, %v, not %s", short(told(l)), show(b), err, show(want))
			}
			got, err := Get(b)
			if got == nil || err != nil {
				t.Fatalf("Get(%s) = %v, %v", show(b), got, err)
			}
			if !sameSnaps(got.Snaps(), l) {
				t.Fatalf("%s became %s", short(told(l)), short(told(got.Snaps())))
			}
			now = got
		}
	}
}

// P10.4: catalogs have the same bytes only if they are the same.
func TestBytesApart(t *testing.T) {
	seen := map[string]string{}
	for _, l := range all() {
		b, err := Put(from(t, l...))
		if err != nil {
			t.Fatal(err)
		}
		if other, ok := seen[string(b)]; ok && other != told(l) {
			t.Errorf("%s and %s have the same bytes", short(other), short(told(l)))
		}
		seen[string(b)] = told(l)
	}
}

// P10.1: the parts of all kinds of catalogs, by the second writing.
func TestParts(t *testing.T) {
	for _, l := range all() {
		c := from(t, l...)
		parts, err := Parts(c)
		if err != nil {
			t.Fatal(err)
		}
		if !slices.Equal(parts, partsElsewhere(l)) {
			t.Errorf("Parts(%s) = %s", short(told(l)), short(fmt.Sprintf("%q", parts)))
		}
		for client, part := range parts {
			own, err := Get([]byte(part))
			if err != nil {
				t.Fatalf("the part of client %d of %s: %v", client, short(told(l)), err)
			}
			if !sameSnaps(own.Snaps(), only(client, l)) {
				t.Errorf("the part of client %d of %s is %s", client, short(told(l)), short(told(own.Snaps())))
			}
		}
	}
}

// P10.1: parts written by hand: in the order of the clients, each client's snapshots in theirs; of those who have nothing a zero.
func TestPartsWrittenByHand(t *testing.T) {
	c := from(t,
		snap(7, "b", true), snap(2, "z", false, entry("a", "xy")), snap(7, "a", false), snap(0, "s", true), snap(2, "y", true),
	)
	want := []string{
		"\x01\x00\x01s\x01\x00", "\x00", "\x02\x02\x01z\x00\x01\x01a\x02\x01\x02xy\x02\x01y\x01\x00", "\x00",
		"\x00", "\x00", "\x00", "\x02\x07\x01b\x01\x00\x07\x01a\x00\x00",
	}
	if parts, err := Parts(c); !slices.Equal(parts, want) || err != nil {
		t.Errorf("Parts = %q, %v", parts, err)
	}
}

// P10.1: of clients some of which have nothing, all sets of them.
func TestPartsOfSomeClients(t *testing.T) {
	for set := range 1 << clients {
		var l []api.Snapshot
		var want []string
		for client := range clients {
			if set&(1<<client) == 0 {
				want = append(want, "\x00")
				continue
			}
			// The later a client, the earlier it began.
			l = slices.Insert(l, 0, snap(client, "s", client%2 == 0))
			want = append(want, "\x01"+string(rune(client))+"\x01s"+string(rune((client+1)%2))+"\x00")
		}
		if parts, err := Parts(from(t, l...)); !slices.Equal(parts, want) || err != nil {
			t.Errorf("Parts(%s) = %q, %v", told(l), parts, err)
		}
	}
}

// differs holds the clients that differ, either way round.
func differs(t *testing.T, what string, a, b []api.Snapshot, want ...int) {
	t.Helper()
	one, two := from(t, a...), from(t, b...)
	for range 2 {
		for _, pair := range [][2]*catalog.Catalog{{one, two}, {two, one}} {
			if got, err := Differ(pair[0], pair[1]); !slices.Equal(got, want) || err != nil {
				t.Errorf("%s: Differ = %v, %v, not %v", what, got, err, want)
			}
		}
	}
}

// P10.1: a catalog, and one like it, differ in no client.
func TestDifferNot(t *testing.T) {
	for _, l := range all() {
		c := from(t, l...)
		if got, err := Differ(c, c); len(got) > 0 || err != nil {
			t.Errorf("a catalog and itself: Differ = %v, %v", got, err)
		}
		differs(t, "two alike", l, l)
		b, _ := Put(c)
		got, err := Get(b)
		if err != nil {
			t.Fatal(err)
		}
		if l, err := Differ(c, got); len(l) > 0 || err != nil {
			t.Errorf("a catalog and what was put of it: Differ = %v, %v", l, err)
		}
	}
}

// P10.1: catalogs that differ in one thing of one client, or of several, or in an order.
func TestDiffer(t *testing.T) {
	for client := range clients {
		for _, l := range [][]api.Snapshot{mixed(), ofAll()} {
			own := slices.IndexFunc(l, func(s api.Snapshot) bool { return s.Client == client && s.Name == "s4" })
			with := func(change func(s *api.Snapshot)) []api.Snapshot {
				other := slices.Clone(l)
				other[own].Entries = slices.Clone(other[own].Entries)
				change(&other[own])
				return other
			}
			differs(t, "without a snapshot", l, slices.Delete(slices.Clone(l), own, own+1), client)
			differs(t, "another name", l, with(func(s *api.Snapshot) { s.Name = "t" }), client)
			differs(t, "open, not committed", l, with(func(s *api.Snapshot) { s.Done = !s.Done }), client)
			differs(t, "without an entry", l, with(func(s *api.Snapshot) { s.Entries = nil }), client)
			differs(t, "an entry more", l, with(func(s *api.Snapshot) { s.Entries = append(s.Entries, entry("z")) }), client)
			differs(t, "another path", l, with(func(s *api.Snapshot) { s.Entries[0].Path = "f" }), client)
			differs(t, "another chunk", l, with(func(s *api.Snapshot) { s.Entries[0] = entry("f0000", "x") }), client)
			differs(t, "other cuts", with(func(s *api.Snapshot) { s.Entries[0] = entry("f0000", "xy") }), with(func(s *api.Snapshot) { s.Entries[0] = entry("f0000", "x", "y") }), client)
			last := slices.IndexFunc(l, func(s api.Snapshot) bool { return s.Client == client && s.Name == "s7" })
			swapped := slices.Clone(l)
			swapped[own], swapped[last] = swapped[last], swapped[own]
			differs(t, "another order of a client's", l, swapped, client)
			beside := slices.IndexFunc(l, func(s api.Snapshot) bool { return s.Client == (client+1)%clients && s.Name == "s4" })
			moved := slices.Clone(l)
			moved[own], moved[beside] = moved[beside], moved[own]
			if !slices.EqualFunc(only(client, l), only(client, moved), func(a, b api.Snapshot) bool { return a.Name == b.Name }) {
				continue
			}
			differs(t, "another order of two clients' alone", l, moved)
		}
		differs(t, "a snapshot, and none", []api.Snapshot{snap(client, "s", false)}, nil, client)
		for _, other := range []int{0, 3, 7} {
			if other == client {
				continue
			}
			want := []int{min(client, other), max(client, other)}
			differs(t, "the same of another client", []api.Snapshot{snap(client, "s", true)}, []api.Snapshot{snap(other, "s", true)}, want...)
			both := []api.Snapshot{snap(client, "s", true), snap(other, "s", false)}
			differs(t, "the order of two clients' alone", both, []api.Snapshot{both[1], both[0]})
		}
	}
	differs(t, "all", ofAll(), nil, 0, 1, 2, 3, 4, 5, 6, 7)
	differs(t, "all clients' by turns, and one behind the other", ofAll(), mixed())
	differs(t, "the clients' order turned round", slices.Concat(row(0, 3), row(7, 3)), slices.Concat(row(7, 3), row(0, 3)))
}

// P10.1: all sets of clients that differ, rising.
func TestDifferSets(t *testing.T) {
	l := mixed()
	for set := range 1 << clients {
		other := slices.Clone(l)
		var want []int
		for client := range clients {
			if set&(1<<client) != 0 {
				i := slices.IndexFunc(other, func(s api.Snapshot) bool { return s.Client == client })
				other[i].Done = !other[i].Done
				want = append(want, client)
			}
		}
		differs(t, fmt.Sprintf("set %b", set), l, other, want...)
	}
}

// P10.1: any two catalogs differ where the second writing's parts do.
func TestDifferAnyTwo(t *testing.T) {
	lists := append(small(), ofAll(), mixed())
	for _, a := range lists {
		for _, b := range lists {
			var want []int
			one, two := partsElsewhere(a), partsElsewhere(b)
			for client := range clients {
				if one[client] != two[client] {
					want = append(want, client)
				}
			}
			differs(t, "two of all", a, b, want...)
		}
	}
}

// P10.1, R3: a catalog that is nil, one and both: ErrArg itself, and nothing beside it.
func TestNil(t *testing.T) {
	for range 2 {
		if b, err := Put(nil); b != nil || err != api.ErrArg {
			t.Errorf("Put(nil) = %x, %v", b, err)
		}
		if l, err := Parts(nil); l != nil || err != api.ErrArg {
			t.Errorf("Parts(nil) = %q, %v", l, err)
		}
	}
	for _, c := range []*catalog.Catalog{nil, catalog.New(), from(t, some()...)} {
		for _, pair := range [][2]*catalog.Catalog{{nil, c}, {c, nil}} {
			if l, err := Differ(pair[0], pair[1]); l != nil || err != api.ErrArg {
				t.Errorf("Differ(%v) = %v, %v", pair, l, err)
			}
		}
	}
}

// P10.2, R3: no bytes are no catalog's.
func TestNoBytes(t *testing.T) {
	notBytes(t, "nil", nil)
	notBytes(t, "empty", []byte{})
	notBytes(t, "none, but some behind", []byte("\x00\x01\x00")[:0])
}

// P10.2, R3: bytes that are cut off at each place, though the rest stands behind their end.
func TestCutOff(t *testing.T) {
	for _, l := range small() {
		b := bytesElsewhere(l)
		for n := range b {
			notBytes(t, "cut off", b[:n])
			notBytes(t, "cut off, nothing behind", slices.Clip(bytes.Clone(b[:n])))
		}
	}
	// Of many bytes the ends of all pieces of one snapshot, and some of the others.
	for _, l := range [][]api.Snapshot{ofAll(), fullSnaps()} {
		b := bytesElsewhere(l)
		at := 0
		for i, p := range piecesElsewhere(l) {
			at += len(p.b)
			if (i < 2000 || i%503 == 0) && at < len(b) {
				notBytes(t, "cut off at a piece's end", b[:at])
			}
		}
		for n := 1; n < 100; n++ {
			notBytes(t, "cut off at the end", b[:len(b)-n])
		}
	}
}

// P10.2, R3: bytes with one more behind their end, and with many.
func TestMoreBehind(t *testing.T) {
	for _, l := range all() {
		b := bytesElsewhere(l)
		values := []byte{0, 1, 0x80, 0xff}
		if len(b) < 2000 {
			for x := range 256 {
				values = append(values, byte(x))
			}
		}
		for _, x := range values {
			notBytes(t, "one more", append(slices.Clip(b), x))
		}
		notBytes(t, "twice", append(slices.Clip(b), b...))
		notBytes(t, "many more", append(slices.Clip(b), make([]byte, 5000)...))
	}
}

// longer is a number with zeros as its highest digits.
func longer(b []byte, zeros int) []byte {
	out := bytes.Clone(b)
	for range zeros {
		out[len(out)-1] |= 0x80
		out = append(out, 0)
	}
	return out
}

// eachNumber goes through the numbers of some catalogs' bytes: one's bytes, and the catalog's bytes with others in their place.
func eachNumber(lists [][]api.Snapshot, do func(number []byte, with func(other []byte) []byte)) {
	for _, l := range lists {
		pieces := piecesElsewhere(l)
		for i, p := range pieces {
			if !p.number {
				continue
			}
			do(p.b, func(other []byte) []byte {
				changed := slices.Clone(pieces)
				changed[i].b = other
				return joined(changed)
			})
		}
	}
}

// P10.2, R3: a number in too many bytes is none, wherever it stands.
func TestNumbersInTooManyBytes(t *testing.T) {
	eachNumber(small(), func(number []byte, with func([]byte) []byte) {
		for zeros := 1; zeros <= 10; zeros++ {
			notBytes(t, "too many bytes", with(longer(number, zeros)))
		}
	})
}

// P10.2, R3: a number that is greater than any may be here (clients, sizes, Done, of how many of whatever), wherever it stands, up to as great as a number can be; what an int's fewer bits hold is right.
func TestNumbersTooGreat(t *testing.T) {
	eachNumber(small(), func(number []byte, with func([]byte) []byte) {
		n, _ := binary.Uvarint(number)
		for _, more := range []uint64{1 << 11, 1 << 12, 1 << 13, 1 << 16, 1 << 31, 1 << 32, 1 << 62, 1 << 63, 1<<63 + 1<<32, math.MaxUint64 - n} {
			notBytes(t, "too great", with(binary.AppendUvarint(nil, n+more)))
		}
		for _, huge := range []uint64{math.MaxInt32, math.MaxUint32, math.MaxInt64, math.MaxInt64 + 1, math.MaxUint64 - 1, math.MaxUint64} {
			notBytes(t, "huge", with(binary.AppendUvarint(nil, huge)))
		}
		ten := longer(number, 10-len(number))
		ten[9] = 2
		notBytes(t, "2^64 more", with(ten))
		notBytes(t, "eleven digits", with(append(bytes.Repeat([]byte{0xff}, 10), 1)))
	})
}

// P10.2: a catalog with a number a little greater, or smaller, is another one, or none.
func TestNumbersBeside(t *testing.T) {
	eachNumber(small(), func(number []byte, with func([]byte) []byte) {
		n, _ := binary.Uvarint(number)
		for d := uint64(1); d <= 3; d++ {
			holdBytes(t, with(binary.AppendUvarint(nil, n+d)))
			holdBytes(t, with(binary.AppendUvarint(nil, n-d)))
		}
	})
}

// P10.2: the edges of each number, told by bytes.
func TestEdgesOfBytes(t *testing.T) {
	num := func(n int) string { return string(binary.AppendUvarint(nil, uint64(n))) }
	edge := func(what string, n, most int, b string) {
		t.Helper()
		if is := holdBytes(t, []byte(b)); is != (n <= most) {
			t.Errorf("%s %d: %v", what, n, is)
		}
	}
	for n := range 300 {
		edge("client", n, 7, "\x01"+num(n)+"\x01s\x01\x00")
		edge("Done", n, 1, "\x01\x00\x01s"+num(n)+"\x00")
		edge("Done, with an entry behind,", n, 1, "\x01\x00\x01s"+num(n)+"\x01\x01a\x00\x00")
		var own, everyone, entries string
		for i := range n {
			own += "\x03" + num(2) + fmt.Sprintf("%02x", i%256) + "\x00\x00"
			everyone += num(i%clients) + num(3) + fmt.Sprintf("%03d", i) + "\x00\x00"
			entries += num(3) + fmt.Sprintf("%03d", i) + "\x00\x00"
		}
		edge("a client's snapshots", n, 8, num(n)+own)
		edge("snapshots", n, 64, num(n)+everyone)
		edge("entries", n, 32, "\x01\x00\x01s\x01"+num(n)+entries)
		edge("keys", n, 16, "\x01\x00\x01s\x01\x01\x01a"+num(n)+num(n)+text("\x01x", n))
		edge("keys without bytes", n, 0, "\x01\x00\x01s\x01\x01\x01a\x00"+num(n)+text("\x00", n))
	}
	for n := 1; n <= 300; n++ {
		edge("a name's bytes", n, 16, "\x01\x00"+num(n)+text("x", n)+"\x01\x00")
		edge("a path's parts", n, 8, "\x01\x00\x01s\x01\x01"+num(2*n-1)+path(n, "a")+"\x00\x00")
		edge("a key's bytes", n, 64, "\x01\x00\x01s\x01\x01\x01a"+num(n)+"\x01"+num(n)+text("k", n))
	}
}

// P10.2: a size is its chunks', from 0 to the greatest that an entry may have, and no other.
func TestSizesOfBytes(t *testing.T) {
	for _, e := range entriesOf() {
		for _, size := range []uint64{
			0, 1, 2, 63, 64, 65, 127, 128, fileMax - 2, fileMax - 1, fileMax, fileMax + 1, 1 << 14, math.MaxInt32, 1 << 32, 1<<32 + 1, 1<<32 + fileMax,
			uint64(e.Size), uint64(e.Size) + 1, uint64(e.Size) + 1<<32, uint64(e.Size) + 1<<63, math.MaxInt64, 1 << 63, math.MaxUint64 - 1, math.MaxUint64,
		} {
			pieces := piecesElsewhere([]api.Snapshot{snap(2, "s", true, e)})
			// Behind the number of snapshots, Client, Name, Done, the number of entries, and Path.
			pieces[8].b = binary.AppendUvarint(nil, size)
			if is := holdBytes(t, joined(pieces)); is != (size == uint64(e.Size)) {
				t.Errorf("size %d of %d chunks, of %d bytes: %v", size, len(e.Keys), e.Size, is)
			}
		}
	}
}

func noPaths() []string {
	return []string{
		"", "A", "a b", " ", "/", "a/", "/a", "a//b", ".", "..", "a/..", "./a", "\x00", "\n", "*", "\xff", "a\x80", "\xc3", "\ufffd",
		text("x", 17), text("é", 17), text("x", 4096), text("x", 4097), text("x", 5000), path(9, "a"), path(1000, "a"), text("a/", 1<<16),
	}
}

// wrongEntries are no tree, or have an entry of too many chunks, each by one thing alone.
func wrongEntries() map[string][]api.Entry {
	l := map[string][]api.Entry{
		"33 files":            files(filesMax + 1),
		"many files":          files(1000),
		"one path twice":      {entry("a", "x"), entry("a", "x")},
		"falling paths":       {entry("b"), entry("a")},
		"the third falls":     {entry("a"), entry("c"), entry("b")},
		"under":               {entry("a"), entry("a/b")},
		"under, far":          {entry("a"), entry("a-b"), entry("a.b"), entry("a/b")},
		"under, deep":         {entry("a/b"), entry("a/b/c/d")},
		"not by bytes":        {entry("a/c"), entry("a-b")},
		"an empty chunk":      {entry("a", "x", "")},
		"only an empty chunk": {entry("a", "")},
		"an empty one ahead":  {entry("a", "", "x")},
		"16 empty chunks":     {entry("a", slices.Repeat([]string{""}, keysMax)...)},
		"a chunk of 65":       {entry("a", text("k", keyMax+1))},
		"a chunk of 1024":     {entry("a", text("k", fileMax))},
		"a chunk of 5000":     {entry("a", text("k", 5000))},
		"17 chunks":           {entry("a", slices.Repeat([]string{"x"}, keysMax+1)...)},
		"17 chunks, second":   {entry("a", "x"), entry("b", slices.Repeat([]string{"x"}, keysMax+1)...), entry("c")},
		"1024 chunks":         {entry("a", slices.Repeat([]string{"x"}, fileMax)...)},
		"1025 bytes":          {entry("a", append(fullest(), "x")...)},
		"many chunks":         {entry("a", slices.Repeat([]string{"x"}, 1<<16)...)},
		"the second at fault": {entry("a", "x"), entry("B", "x")},
		"the last at fault":   append(files(filesMax-1), entry("z", "")),
	}
	for _, size := range []int{0, 2, -1, 256 + 1, 1023, 1024, 1025, 1 << 32, 1<<32 + 1, math.MaxInt, math.MinInt, math.MinInt + 1} {
		l["size "+strconv.Itoa(size)] = []api.Entry{{Path: "a", Size: size, Keys: []string{"x"}}}
	}
	for _, size := range []int{1, -1, 1024, 1 << 32, math.MaxInt, math.MinInt} {
		l["no chunks, size "+strconv.Itoa(size)] = []api.Entry{{Path: "a", Size: size}}
	}
	for _, p := range noPaths() {
		l["path "+short(p)] = []api.Entry{entry(p, "x")}
	}
	return l
}

// wrongSnaps can be no catalog's, each by one thing of one snapshot alone.
func wrongSnaps() map[string]api.Snapshot {
	l := map[string]api.Snapshot{}
	for _, client := range []int{-1, -2, -8, clients, clients + 1, 100, 128, 256, 1 << 32, 1<<32 + 1, math.MaxInt, math.MinInt, math.MinInt + 1} {
		l["client "+strconv.Itoa(client)] = snap(client, "new", true, entry("a", "x"))
	}
	for _, name := range append(noPaths(), "a/b", "a/b/c", path(8, "a"), path(2, widest())) {
		l["name "+short(name)] = snap(2, name, true, entry("a", "x"))
	}
	for what, entries := range wrongEntries() {
		l[what] = snap(2, "new", true, entries...)
	}
	return l
}

// P10.2, R3: bytes of a snapshot that can be no catalog's, alone, first, last and between others, open and committed.
func TestBytesOfWhatCantBe(t *testing.T) {
	a, b := snap(0, "a", true), snap(2, "b", false)
	for what, s := range wrongSnaps() {
		for _, done := range []bool{true, false} {
			s.Done = done
			for _, l := range [][]api.Snapshot{{s}, {s, a, b}, {a, b, s}, {a, s, b}} {
				if c, err := catalog.From(l); c != nil || err == nil {
					t.Fatalf("%s: From lets it be", short(what))
				}
				notBytes(t, short(what), bytesElsewhere(l))
			}
		}
	}
}

// P10.2, R3: bytes of more than MaxSnaps snapshots of a client, or of two of one name, wherever they stand.
func TestBytesOfTooMany(t *testing.T) {
	for client := range clients {
		other := (client + 3) % clients
		notBytes(t, "nine", bytesElsewhere(row(client, snapsMax+1)))
		notBytes(t, "nine, others behind", bytesElsewhere(slices.Concat(row(client, snapsMax+1), row(other, snapsMax))))
		notBytes(t, "nine, others ahead", bytesElsewhere(slices.Concat(row(other, snapsMax), row(client, snapsMax+1))))
		more := snap(client, "new", true)
		notBytes(t, "nine of one, all of others", bytesElsewhere(append(mixed(), more)))
		notBytes(t, "nine of one, few of another", bytesElsewhere(append(slices.Delete(ofAll(), other*snapsMax, other*snapsMax+1), more)))
		for _, done := range []bool{true, false} {
			one, two := snap(client, "a", done), snap(client, "a", !done, entry("a"))
			notBytes(t, "one name twice", bytesElsewhere([]api.Snapshot{one, two}))
			notBytes(t, "one name twice, alike", bytesElsewhere([]api.Snapshot{one, one}))
			notBytes(t, "one name twice, others between", bytesElsewhere(slices.Concat([]api.Snapshot{one}, row(client, 3), row(other, 3), []api.Snapshot{two})))
			two.Client = other
			if !holdBytes(t, bytesElsewhere([]api.Snapshot{one, two})) {
				t.Error("a name of two clients isn't got")
			}
		}
	}
}

// P10.2: catalogs' bytes with a byte left out, put between, or changed are those of another catalog, or none's.
func TestChangedBytes(t *testing.T) {
	var every []byte
	for x := range 256 {
		every = append(every, byte(x))
	}
	for _, x := range written() {
		b, values := []byte(x.b), every
		// Of long ones some bytes are enough: most of these stand in texts.
		if len(b) > 100 {
			values = []byte{0, 1, 2, '/', 'A', 'a', 0x3f, 0x40, 0x41, 0x80, 0xff}
		}
		for i := range b {
			holdBytes(t, slices.Delete(bytes.Clone(b), i, i+1))
			for _, x := range values {
				holdBytes(t, slices.Insert(bytes.Clone(b), i, x))
				changed := bytes.Clone(b)
				changed[i] = x
				holdBytes(t, changed)
			}
		}
	}
}

// P1, P10.2, P10.4: all bytes of up to six of these, alone and behind some beginnings.
func TestAllShortBytes(t *testing.T) {
	chosen := []byte{0, 1, 2, 'a', 'b', 7, 0x80, 0xff}
	// Of any; of a snapshot's entries; of an entry; of its size and keys; of a second snapshot; of a second entry.
	fronts := []string{"", "\x01\x00\x01s\x00", "\x01\x02\x01s\x01\x01", "\x01\x00\x01s\x00\x01\x01a", "\x02\x00\x01a\x00\x00", "\x01\x00\x01s\x00\x02\x01a\x00\x00"}
	got := 0
	var hold func(b []byte, more int)
	hold = func(b []byte, more int) {
		if holdBytes(t, b) {
			got++
		}
		if more == 0 {
			return
		}
		for _, x := range chosen {
			hold(append(slices.Clip(b), x), more-1)
		}
	}
	for _, front := range fronts {
		hold([]byte(front), 6)
	}
	if got < 100 {
		t.Errorf("only %d of them are catalogs'", got)
	}
}

// P1, P10.2, P10.4: catalogs' bytes, changed at several places, from a row of numbers that is always the same.
func TestManyChanges(t *testing.T) {
	row := rand.New(rand.NewSource(10))
	lists := small()
	got := 0
	for range 100000 {
		b := bytesElsewhere(lists[row.Intn(len(lists))])
		for range 1 + row.Intn(3) {
			i := row.Intn(len(b) + 1)
			switch row.Intn(4) {
			case 0:
				b = slices.Insert(b, i, byte(row.Intn(256)))
			case 1:
				b = slices.Delete(b, i, min(len(b), i+1))
			case 2:
				b = b[:i]
			default:
				if i < len(b) {
					b[i] += byte(1 + row.Intn(255))
				}
			}
		}
		if holdBytes(t, b) {
			got++
		}
	}
	if got < 100 {
		t.Errorf("only %d of them are catalogs'", got)
	}
}

// P1: long bytes are gone through, too, whatever they tell of how many things follow.
func TestLong(t *testing.T) {
	const n = 1 << 20
	huge := string(binary.AppendUvarint(nil, math.MaxUint64))
	for _, front := range []string{
		"", "\x40", huge, "\x01\x00", "\x01\x00" + huge, "\x01\x00\x80\x20", "\x01\x00\x80\x80\x40", "\x01\x00\x01s\x00", "\x01\x00\x01s\x00" + huge,
		"\x01\x00\x01s\x00\x20", "\x01\x00\x01s\x00\x01\x01a\x00", "\x01\x00\x01s\x00\x01\x01a\x00" + huge, "\x01\x00\x01s\x00\x01\x01a\x01\x01" + huge,
	} {
		for _, s := range []string{text("\x00", n), text("\x01", n), text("a", n), text("\x40", n), text("\x80", n), text("\xff", n), text("\x00\x01a\x00\x00", n), text("\x01x", n)} {
			notBytes(t, "long", []byte(front+s))
		}
	}
	zeros := bytesElsewhere(make([]api.Snapshot, 1<<16))
	notBytes(t, "many zero snapshots", zeros)
	var many []api.Snapshot
	for i := range 1 << 16 {
		many = append(many, snap(i%clients, "n"+strconv.Itoa(i), true))
	}
	notBytes(t, "very many snapshots", bytesElsewhere(many))
}

// asked is an operation of a client.
type asked struct {
	client int
	o      api.Op
}

// anOp is some operation, from a row of numbers that is always the same; most of them are done, and are of few clients, names and paths.
func anOp(row *rand.Rand) asked {
	client, name := []int{0, 0, 1, 7}[row.Intn(4)], []string{"a", "b", "c", "d", "é"}[row.Intn(5)]
	p := "f" + strconv.Itoa(row.Intn(40))
	keys := slices.Repeat([]string{text("k", 1+row.Intn(keyMax))}, row.Intn(keysMax+1))
	switch x := row.Intn(100); {
	case x < 20:
		return asked{client, api.Op{Kind: api.OpBegin, Name: name}}
	case x < 80:
		return asked{client, api.Op{Kind: api.OpAdd, Name: name, Path: p, Keys: keys}}
	case x < 88:
		return asked{client, api.Op{Kind: api.OpCommit, Name: name}}
	case x < 94:
		return asked{client, api.Op{Kind: api.OpAbort, Name: name}}
	}
	return asked{client, api.Op{Kind: api.OpPrune, N: row.Intn(4)}}
}

// traceless are operations that are refused, that tell something, or that undo each other.
func traceless(row *rand.Rand) []asked {
	x := anOp(row)
	name := x.o.Name
	switch row.Intn(8) {
	case 0:
		return []asked{{x.client, api.Op{Kind: api.OpList}}, {x.client, api.Op{Kind: api.OpHeld}}, {x.client, api.Op{Kind: api.OpPlan, Name: name}}}
	case 1:
		return []asked{{x.client, api.Op{Kind: api.OpLook, Name: name, Path: "f1"}}, {x.client, api.Op{Kind: api.OpPrune, N: 100}}}
	case 2:
		return []asked{{x.client, api.Op{Kind: api.OpCommit, Name: "new"}}, {x.client, api.Op{Kind: api.OpAbort, Name: "new"}}}
	case 3:
		return []asked{{8, x.o}, {-1, x.o}, {x.client, api.Op{Kind: 10, Name: name}}, {x.client, api.Op{Kind: api.OpAdd, Name: name, Path: "A"}}}
	}
	return []asked{
		{x.client, api.Op{Kind: api.OpBegin, Name: "new"}},
		{x.client, api.Op{Kind: api.OpAdd, Name: "new", Path: "x", Keys: []string{"x"}}},
		{x.client, api.Op{Kind: api.OpAdd, Name: "new", Path: "b", Keys: []string{"y"}}},
		{x.client, api.Op{Kind: api.OpAbort, Name: "new"}},
	}
}

// mustPut are a catalog's bytes.
func mustPut(t *testing.T, c *catalog.Catalog) []byte {
	t.Helper()
	b, err := Put(c)
	if err != nil {
		t.Fatal(err)
	}
	return b
}

// mustGet is a catalog of bytes.
func mustGet(t *testing.T, b []byte) *catalog.Catalog {
	t.Helper()
	c, err := Get(b)
	if c == nil || err != nil {
		t.Fatalf("Get(%s) = %v, %v", show(b), c, err)
	}
	return c
}

// P10.4: catalogs that have done the same have the same bytes, whatever one of them did between that left no trace, and though one of them was put and got between.
func TestSameDone(t *testing.T) {
	sizes := map[int]int{}
	for seed := range int64(20) {
		row, other := rand.New(rand.NewSource(seed)), rand.New(rand.NewSource(1000+seed))
		plain, busy, again := catalog.New(), catalog.New(), catalog.New()
		for i := range 400 {
			for range other.Intn(3) {
				for _, x := range traceless(other) {
					busy.Do(x.client, x.o)
				}
			}
			x := anOp(row)
			one, two, three := plain.Do(x.client, x.o), busy.Do(x.client, x.o), again.Do(x.client, x.o)
			if one.Code != two.Code || one.Code != three.Code || one.N != two.N || one.N != three.N {
				t.Fatalf("seed %d, the %d-th: %v, %v, %v", seed, i, one, two, three)
			}
			b := mustPut(t, plain)
			if other := mustPut(t, busy); !bytes.Equal(b, other) {
				t.Fatalf("seed %d, the %d-th: %s, with more between %s", seed, i, show(b), show(other))
			}
			if other := mustPut(t, again); !bytes.Equal(b, other) {
				t.Fatalf("seed %d, the %d-th: %s, got and gone on %s", seed, i, show(b), show(other))
			}
			if l, err := Differ(plain, busy); len(l) > 0 || err != nil {
				t.Fatalf("seed %d, the %d-th: Differ = %v, %v", seed, i, l, err)
			}
			if other.Intn(4) == 0 {
				again = mustGet(t, b)
			}
			sizes[len(plain.Snaps())]++
		}
	}
	if len(sizes) < 10 {
		t.Errorf("only %d numbers of snapshots were come to", len(sizes))
	}
}

// P10.1, P10.4: what a client does is seen in its own part alone.
func TestDoneByOne(t *testing.T) {
	for seed := range int64(10) {
		row := rand.New(rand.NewSource(100 + seed))
		c := catalog.New()
		for range 300 {
			before := mustGet(t, mustPut(t, c))
			x := anOp(row)
			a := c.Do(x.client, x.o)
			l, err := Differ(before, c)
			if err != nil {
				t.Fatal(err)
			}
			changed := !sameSnaps(before.Snaps(), c.Snaps())
			if changed != slices.Equal(l, []int{x.client}) || !changed && len(l) > 0 {
				t.Fatalf("seed %d: client %d did %v, answered %v: Differ = %v", seed, x.client, x.o, a, l)
			}
		}
	}
}

// calls are all calls of catalogs, and of their bytes.
func calls(c *catalog.Catalog, b []byte) {
	Put(c)
	Parts(c)
	Differ(c, c)
	Differ(c, catalog.New())
	Differ(catalog.New(), c)
	Differ(c, nil)
	Differ(nil, c)
	Get(b)
}

// P10.3, R2: a catalog that is handed in stays as it is.
func TestCatalogStays(t *testing.T) {
	for _, l := range all() {
		c := from(t, l...)
		for range 2 {
			calls(c, nil)
		}
		if now := c.Snaps(); !sameSnaps(now, l) {
			t.Errorf("%s became %s", short(told(l)), short(told(now)))
		}
	}
}

// P10.3, R2: bytes that are handed in stay as they are, what they have behind their end, too.
func TestBytesStay(t *testing.T) {
	for _, l := range all() {
		b := bytesElsewhere(l)
		whole := append(bytes.Clone(b), "behind it"...)
		kept := bytes.Clone(whole)
		for n := 0; n <= len(whole); n += 1 + len(whole)/50 {
			Get(whole[:n])
		}
		Get(whole[:len(b)])
		if !bytes.Equal(whole, kept) {
			t.Errorf("%s became %s", show(kept), show(whole))
		}
	}
}

// P10.3, R2: bytes that were handed in may be changed behind the call.
func TestBytesAreNotKept(t *testing.T) {
	for _, l := range all() {
		for _, x := range []byte{0, 'a', 0xff} {
			b := bytesElsewhere(l)
			c := mustGet(t, b)
			for i := range b {
				b[i] = x
			}
			if got := c.Snaps(); !sameSnaps(got, l) {
				t.Errorf("%s became %s", short(told(l)), short(told(got)))
			}
			if len(b) > 1 {
				notBytes(t, "changed", b)
			}
		}
	}
}

// P10.3: a catalog that was handed in may be changed behind the call: what was told stays, and what is told then is new.
func TestToldStays(t *testing.T) {
	l := some()
	c, other := from(t, l...), from(t, l...)
	b := mustPut(t, c)
	parts, err := Parts(c)
	if err != nil {
		t.Fatal(err)
	}
	apart, err := Differ(c, catalog.New())
	if err != nil {
		t.Fatal(err)
	}
	got := mustGet(t, b)
	for _, x := range []asked{{7, api.Op{Kind: api.OpCommit, Name: "s"}}, {0, api.Op{Kind: api.OpPrune}}, {5, api.Op{Kind: api.OpBegin, Name: "s"}}, {1, api.Op{Kind: api.OpPrune}}} {
		if a := c.Do(x.client, x.o); a.Code != 0 {
			t.Fatalf("%v is answered %d", x, a.Code)
		}
	}
	if !bytes.Equal(b, bytesElsewhere(l)) || !slices.Equal(parts, partsElsewhere(l)) || !slices.Equal(apart, []int{0, 1, 7}) || !sameSnaps(got.Snaps(), l) {
		t.Error("what was told was changed by what was done behind it")
	}
	if l, err := Differ(c, other); !slices.Equal(l, []int{0, 1, 5, 7}) || err != nil {
		t.Errorf("Differ = %v, %v", l, err)
	}
	now := []api.Snapshot{snap(7, "s", true, entry("a", "q")), snap(0, "u", false, entry("d", "w")), snap(5, "s", false)}
	if b := mustPut(t, c); !bytes.Equal(b, bytesElsewhere(now)) {
		t.Errorf("Put = %s", show(b))
	}
}

// P10.3, R2: bytes, parts and clients that were told may be changed; what is told again is as it was.
func TestToldMayBeChanged(t *testing.T) {
	for _, l := range all() {
		c, empty := from(t, l...), catalog.New()
		want := bytesElsewhere(l)
		one, two := mustPut(t, c), mustPut(t, c)
		got := mustGet(t, one)
		clear(one[:cap(one)])
		if !bytes.Equal(two, want) || !sameSnaps(c.Snaps(), l) || !sameSnaps(got.Snaps(), l) {
			t.Fatalf("%s: a change of what was told was seen", short(told(l)))
		}
		parts, _ := Parts(c)
		more, _ := Parts(c)
		clear(parts[:cap(parts)])
		_ = append(parts[:0], "changed")
		apart, _ := Differ(c, empty)
		moreApart, _ := Differ(c, empty)
		wantApart := slices.Clone(moreApart)
		for i := range apart[:cap(apart)] {
			apart[:cap(apart)][i] = -1
		}
		if !slices.Equal(more, partsElsewhere(l)) || !slices.Equal(moreApart, wantApart) {
			t.Fatalf("%s: a change of parts that were told was seen", short(told(l)))
		}
		again, err := Parts(c)
		if !slices.Equal(again, more) || err != nil {
			t.Fatalf("%s: a change of parts that were told was kept", short(told(l)))
		}
		if l, err := Differ(c, empty); !slices.Equal(l, wantApart) || err != nil {
			t.Fatalf("a change of clients that were told was kept: %v, %v", l, err)
		}
		if b := mustPut(t, c); !bytes.Equal(b, want) {
			t.Fatalf("%s: a change of what was told was kept", short(told(l)))
		}
	}
}

// P10.3, R2: catalogs that were told may be changed; what is told again is as it was.
func TestGotMayBeChanged(t *testing.T) {
	for _, l := range all() {
		b := bytesElsewhere(l)
		one, two := mustGet(t, b), mustGet(t, b)
		for client := range clients {
			one.Do(client, api.Op{Kind: api.OpPrune})
			for _, s := range only(client, l) {
				one.Do(client, api.Op{Kind: api.OpAdd, Name: s.Name, Path: "new", Keys: []string{"new"}})
				one.Do(client, api.Op{Kind: api.OpCommit, Name: s.Name})
			}
			one.Do(client, api.Op{Kind: api.OpBegin, Name: "new"})
		}
		if sameSnaps(one.Snaps(), l) {
			t.Fatalf("%s wasn't changed", short(told(l)))
		}
		if !sameSnaps(two.Snaps(), l) || !bytes.Equal(b, bytesElsewhere(l)) {
			t.Fatalf("%s: a change of what was told was seen", short(told(l)))
		}
		if three := mustGet(t, b); !sameSnaps(three.Snaps(), l) {
			t.Fatalf("%s: a change of what was told was kept", short(told(l)))
		}
	}
}

// share tells whether two texts have a byte of memory in common. Texts of one byte are the language's own, and nobody's.
func share(a, b string) bool {
	if len(a) < 2 || len(b) < 2 {
		return false
	}
	x, y := uintptr(unsafe.Pointer(unsafe.StringData(a))), uintptr(unsafe.Pointer(unsafe.StringData(b)))
	return x < y+uintptr(len(b)) && y < x+uintptr(len(a))
}

// asText is bytes as a text of the same memory, what they have behind their end, too.
func asText(b []byte) string {
	b = b[:cap(b)]
	return unsafe.String(unsafe.SliceData(b), len(b))
}

// P10.3, R2: what is told shares no memory with what was handed in, nor with what was told ahead of it.
func TestMemoryApart(t *testing.T) {
	for _, l := range append(small(), mixed()) {
		in := bytesElsewhere(l)
		c := mustGet(t, in)
		texts := []string{asText(in), asText(mustPut(t, c)), asText(mustPut(t, c))}
		for range 2 {
			parts, err := Parts(c)
			if err != nil {
				t.Fatal(err)
			}
			texts = append(texts, parts...)
		}
		for i, s := range texts {
			for _, other := range texts[:i] {
				if share(s, other) {
					t.Fatalf("%s: memory is shared", short(told(l)))
				}
			}
		}
	}
	if one := "ab"; !share(one, one[:2]) {
		t.Error("what is shared isn't found")
	}
}
