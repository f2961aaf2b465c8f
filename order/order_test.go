package order

import (
	"bytes"
	"encoding/binary"
	"fmt"
	"math"
	"math/rand"
	"regexp"
	"slices"
	"strings"
	"testing"
	"unicode/utf8"
	"unsafe"

	"becket/api"
)

// The limits, written out.
const (
	clients = 8
	times   = 1000
	keysMax = 16
	keyMax  = 64
	numMax  = 100
)

// The kinds, written out.
const (
	begin  = 1
	add    = 2
	commit = 3
	abort  = 4
	list   = 5
	look   = 6
	plan   = 7
	prune  = 8
	held   = 9
)

func text(s string, n int) string { return strings.Repeat(s, n) }

// path is one of n parts.
func path(n int, part string) string {
	return strings.Join(slices.Repeat([]string{part}, n), "/")
}

// widest is a part of as many bytes as can be: 64.
func widest() string { return text("\U0001f600", 16) }

// allBytes are keys that have, together, every byte there is.
func allBytes() []string {
	var keys []string
	for i := range 256 / keyMax {
		key := make([]byte, keyMax)
		for j := range key {
			key[j] = byte(i*keyMax + j)
		}
		keys = append(keys, string(key))
	}
	return keys
}

func req(client, time int, o api.Op) api.Req { return api.Req{Client: client, Time: time, Op: o} }

func same(a, b api.Req) bool {
	return a.Client == b.Client && a.Time == b.Time && a.Op.Kind == b.Op.Kind && a.Op.N == b.Op.N &&
		a.Op.Name == b.Op.Name && a.Op.Path == b.Op.Path && slices.Equal(a.Op.Keys, b.Op.Keys)
}

func isZero(r api.Req) bool { return same(r, api.Req{}) }

// copyOf shares no memory with r.
func copyOf(r api.Req) api.Req {
	r.Op.Name, r.Op.Path = strings.Clone(r.Op.Name), strings.Clone(r.Op.Path)
	keys := slices.Clone(r.Op.Keys)
	for i, key := range keys {
		keys[i] = strings.Clone(key)
	}
	r.Op.Keys = keys
	return r
}

// show tells a request, or bytes, in a line that isn't too long.
func show(what any) string {
	s := fmt.Sprintf("%+q", what)
	if b, ok := what.([]byte); ok {
		s = fmt.Sprintf("%x", b)
	}
	return s[:min(len(s), 300)]
}

// ops are operations that may be, each kind with all that it asks for, at the edges.
func ops() []api.Op {
	names := []string{"s", "0", "-", "_", "...", "a.b-c_9", "é", "日本", text("x", 16), text(".", 16), widest()}
	paths := append(slices.Clone(names), "a/b", ".../.a", "日本/é/x.tar", path(8, "a"), path(8, text("z", 16)), path(8, widest()))
	keys := [][]string{
		nil, {}, {"x"}, {"xy", "z"}, {"x", "x"}, {"\x00"}, {"\xff", "\x80", "\x7f"}, {"\xc3", "\xa9"},
		{text("k", keyMax-1)}, {text("k", keyMax)}, {"x", text("\xff", keyMax), "y"}, allBytes(),
		slices.Repeat([]string{"x"}, keysMax-1), slices.Repeat([]string{"x"}, keysMax), slices.Repeat([]string{text("k", keyMax)}, keysMax),
		{"/", "..", "A", " "},
	}
	var l []api.Op
	for _, name := range names {
		for _, kind := range []int{begin, commit, abort, plan} {
			l = append(l, api.Op{Kind: kind, Name: name}, api.Op{Kind: kind, Name: name, Keys: []string{}})
		}
	}
	for i, p := range paths {
		l = append(l, api.Op{Kind: look, Name: names[i%len(names)], Path: p})
		for _, k := range keys {
			l = append(l, api.Op{Kind: add, Name: names[i%len(names)], Path: p, Keys: k})
		}
	}
	for _, n := range []int{0, 1, 2, 50, numMax - 1, numMax} {
		l = append(l, api.Op{Kind: prune, N: n}, api.Op{Kind: prune, N: n, Keys: []string{}})
	}
	for _, kind := range []int{list, held} {
		l = append(l, api.Op{Kind: kind}, api.Op{Kind: kind, Keys: []string{}})
	}
	return l
}

// reqs are requests that may be: every operation at some client and time, and every client and edge of times at some operations.
func reqs() []api.Req {
	edges := []int{1, 2, 127, 128, 255, 256, 300, 500, times - 1, times}
	all := ops()
	var l []api.Req
	for i, o := range all {
		l = append(l, req(i%clients, edges[i%len(edges)], o))
	}
	for client := range clients {
		for i, time := range edges {
			l = append(l, req(client, time, all[(client*31+i*17)%len(all)]), req(client, time, api.Op{Kind: list}))
		}
	}
	return l
}

// badOps are operations that may not be, each by one thing alone.
func badOps() []api.Op {
	var l []api.Op
	for _, kind := range []int{0, 10, 11, -1, -9, 100, 256 + list, 1<<32 + list, 1<<32 + begin, math.MaxInt, math.MinInt, math.MinInt + list} {
		for _, o := range []api.Op{{}, {Name: "s"}, {Name: "s", Path: "a"}, {Name: "s", Path: "a", Keys: []string{"x"}}, {N: 1}} {
			o.Kind = kind
			l = append(l, o)
		}
	}
	noPaths := []string{
		"A", "a b", " ", "/", "a/", "/a", "a//b", ".", "..", "a/..", "\x00", "\n", "*", "\xff", "a\x80", "\xc3", "\ufffd",
		text("x", 17), text("é", 17), text("x", 5000), path(9, "a"), path(1000, "a"),
	}
	names := append(slices.Clone(noPaths), "", "a/b", "a/b/c", path(8, "a"), path(2, widest()))
	for _, kind := range []int{begin, add, commit, abort, look, plan} {
		for _, name := range names {
			o := api.Op{Kind: kind, Name: name}
			if kind == add || kind == look {
				o.Path = "a/b"
			}
			l = append(l, o)
		}
	}
	for _, p := range append(slices.Clone(noPaths), "") {
		l = append(l, api.Op{Kind: look, Name: "s", Path: p}, api.Op{Kind: add, Name: "s", Path: p}, api.Op{Kind: add, Name: "s", Path: p, Keys: []string{"x"}})
	}
	for _, keys := range [][]string{
		{""}, {"x", ""}, {"", "x"}, {"x", "", "y"}, slices.Repeat([]string{""}, keysMax), slices.Repeat([]string{"x"}, keysMax+1), slices.Repeat([]string{""}, keysMax+1),
		{text("k", keyMax+1)}, {"x", text("k", keyMax+1)}, {text("k", keyMax+1), "x"}, {text("k", 4096)}, {text("k", 5000)}, slices.Repeat([]string{"x"}, 1000),
		append(slices.Repeat([]string{"x"}, keysMax-1), ""), append(slices.Repeat([]string{"x"}, keysMax-1), text("k", keyMax+1)),
	} {
		l = append(l, api.Op{Kind: add, Name: "s", Path: "a/b", Keys: keys})
	}
	for _, n := range []int{-1, -100, numMax + 1, 127, 128, 256, 256 + 1, 1 << 32, 1<<32 + 1, math.MaxInt, math.MinInt, math.MinInt + 1} {
		l = append(l, api.Op{Kind: prune, N: n})
	}
	return append(l, unaskedFor()...)
}

// unaskedFor are operations with what their kinds don't ask for, and all that they do.
func unaskedFor() []api.Op {
	var l []api.Op
	for kind := begin; kind <= held; kind++ {
		o := api.Op{Kind: kind}
		if kind != list && kind != prune && kind != held {
			o.Name = "s"
		} else {
			for _, name := range []string{"s", "a/b", "A", "\xff", text("x", 5000)} {
				l = append(l, api.Op{Kind: kind, Name: name})
			}
		}
		if kind == add || kind == look {
			o.Path = "a"
		} else {
			for _, p := range []string{"a", "a/b", "/", "\x00", text("x", 5000)} {
				l = append(l, api.Op{Kind: kind, Name: o.Name, Path: p})
			}
		}
		if kind != add {
			for _, keys := range [][]string{{"x"}, {""}, {"x", "y"}, slices.Repeat([]string{"x"}, 17), {text("x", 65)}} {
				l = append(l, api.Op{Kind: kind, Name: o.Name, Path: o.Path, Keys: keys})
			}
		}
		if kind != prune {
			for _, n := range []int{1, 2, numMax, -1, numMax + 1, 256, 1 << 32, math.MaxInt, math.MinInt} {
				o.N = n
				l = append(l, o)
			}
		}
	}
	return l
}

// badReqs are requests that may not be.
func badReqs() []api.Req {
	var l []api.Req
	for i, o := range badOps() {
		l = append(l, req(0, 1, o), req(i%clients, 1+i%times, o))
	}
	for _, o := range []api.Op{{Kind: list}, {Kind: begin, Name: "s"}, {Kind: prune, N: 7}, {Kind: add, Name: "s", Path: "a/b", Keys: []string{"x"}}, {Kind: 0}} {
		for _, client := range []int{-1, -2, -8, clients, clients + 1, 100, 128, 256, 1 << 32, 1<<32 + 1, math.MaxInt, math.MinInt, math.MinInt + 1} {
			l = append(l, req(client, 1, o), req(client, times, o))
		}
		for _, time := range []int{0, -1, -1000, times + 1, times + 2, 1024, 1 << 16, 1<<16 + 1, 1 << 32, 1<<32 + 1, math.MaxInt, math.MinInt, math.MinInt + 1} {
			l = append(l, req(0, time, o), req(clients-1, time, o), req(-1, time, o))
		}
	}
	return append(l, api.Req{}, req(-1, 0, badOps()[0]), req(clients, times+1, api.Op{Kind: 10, Name: "/", Path: "/", Keys: []string{""}, N: -1}))
}

// P8.1: a request that may be is told no error.
func TestMayBe(t *testing.T) {
	for _, r := range reqs() {
		if err := Check(r); err != nil {
			t.Errorf("Check(%s) = %v", show(r), err)
		}
		if b, err := Put(r); len(b) == 0 || err != nil {
			t.Errorf("Put(%s) = %s, %v", show(r), show(b), err)
		}
	}
}

// P8.1, R3: of a request that may not be ErrArg itself, and nothing beside it.
func TestMayNotBe(t *testing.T) {
	for _, r := range badReqs() {
		if err := Check(r); err != api.ErrArg {
			t.Errorf("Check(%s) = %v", show(r), err)
		}
		if b, err := Put(r); b != nil || err != api.ErrArg {
			t.Errorf("Put(%s) = %s, %v", show(r), show(b), err)
		}
	}
}

// P8.1: all clients and times, and those around them.
func TestAllClientsAndTimes(t *testing.T) {
	for client := -3; client <= clients+3; client++ {
		for time := -3; time <= times+30; time++ {
			var want error = api.ErrArg
			if 0 <= client && client <= 7 && 1 <= time && time <= 1000 {
				want = nil
			}
			r := req(client, time, api.Op{Kind: held})
			if err := Check(r); err != want {
				t.Errorf("client %d, time %d: Check tells %v", client, time, err)
			}
			b, err := Put(r)
			if err != want || want == nil != bytes.Equal(b, bytesElsewhere(r)) {
				t.Errorf("client %d, time %d: Put tells %x, %v", client, time, b, err)
			}
		}
	}
}

type put struct {
	r api.Req
	b string
}

// written are requests, and their bytes as written by hand.
func written() []put {
	long := text("k", 64)
	return []put{
		{req(1, 2, api.Op{Kind: api.OpList}), "\x01\x02\x05\x00\x00\x00\x00"},
		{req(0, 1, api.Op{Kind: api.OpBegin, Name: "s"}), "\x00\x01\x01\x00\x01s\x00\x00"},
		{req(1, 300, api.Op{Kind: api.OpAdd, Name: "s", Path: "a/b", Keys: []string{"xy", "z"}}), "\x01\xac\x02\x02\x00\x01s\x03a/b\x02\x02xy\x01z"},
		{req(2, 3, api.Op{Kind: api.OpAdd, Name: "s", Path: "a"}), "\x02\x03\x02\x00\x01s\x01a\x00"},
		{req(7, 1000, api.Op{Kind: api.OpAdd, Name: "é", Path: "日/.a", Keys: []string{long, "\x00", "\xff\x80"}}), "\x07\xe8\x07\x02\x00\x02é\x06日/.a\x03\x40" + long + "\x01\x00\x02\xff\x80"},
		{req(3, 127, api.Op{Kind: api.OpCommit, Name: "s-1"}), "\x03\x7f\x03\x00\x03s-1\x00\x00"},
		{req(3, 128, api.Op{Kind: api.OpAbort, Name: "s_1"}), "\x03\x80\x01\x04\x00\x03s_1\x00\x00"},
		{req(4, 5, api.Op{Kind: api.OpLook, Name: "s", Path: "a/b.c"}), "\x04\x05\x06\x00\x01s\x05a/b.c\x00"},
		{req(5, 6, api.Op{Kind: api.OpPlan, Name: "s"}), "\x05\x06\x07\x00\x01s\x00\x00"},
		{req(6, 7, api.Op{Kind: api.OpPrune}), "\x06\x07\x08\x00\x00\x00\x00"},
		{req(6, 7, api.Op{Kind: api.OpPrune, N: 100}), "\x06\x07\x08\x64\x00\x00\x00"},
		{req(7, 8, api.Op{Kind: api.OpHeld, Keys: []string{}}), "\x07\x08\x09\x00\x00\x00\x00"},
		{req(0, 1, api.Op{Kind: api.OpLook, Name: widest(), Path: path(8, widest())}), "\x00\x01\x06\x00\x40" + widest() + "\x87\x04" + path(8, widest()) + "\x00"},
		{req(0, 1, api.Op{Kind: api.OpAdd, Name: "s", Path: "a", Keys: slices.Repeat([]string{long}, 16)}), "\x00\x01\x02\x00\x01s\x01a\x10" + text("\x40"+long, 16)},
	}
}

// P8.1, P8.2: the chapter's example, and bytes written by hand, of every kind.
func TestWrittenByHand(t *testing.T) {
	for _, c := range written() {
		if b, err := Put(c.r); string(b) != c.b || err != nil {
			t.Errorf("Put(%s) = %s, %v", show(c.r), show(b), err)
		}
		if r, err := Get([]byte(c.b)); !same(r, c.r) || err != nil {
			t.Errorf("Get(%x) = %s, %v", c.b, show(r), err)
		}
	}
}

// piecesElsewhere are a request's bytes, each number and text for itself, by the library's own writer; of requests that may not be, too.
func piecesElsewhere(r api.Req) [][]byte {
	num := func(n int) []byte { return binary.AppendUvarint(nil, uint64(n)) }
	o := r.Op
	l := [][]byte{num(r.Client), num(r.Time), num(o.Kind), num(o.N)}
	l = append(l, num(len(o.Name)), []byte(o.Name), num(len(o.Path)), []byte(o.Path), num(len(o.Keys)))
	for _, key := range o.Keys {
		l = append(l, num(len(key)), []byte(key))
	}
	return l
}

// isNumber tells which of piecesElsewhere are numbers: all but Name (5), Path (7) and keys (10, 12, and so on).
func isNumber(i int) bool { return i != 5 && i != 7 && (i < 10 || i%2 == 1) }

func bytesElsewhere(r api.Req) []byte { return bytes.Join(piecesElsewhere(r), nil) }

var (
	nameForm = regexp.MustCompile(`^[a-z0-9_.\-\x{80}-\x{10ffff}]{1,16}$`)
	pathForm = regexp.MustCompile(`^[a-z0-9_.\-\x{80}-\x{10ffff}]{1,16}(/[a-z0-9_.\-\x{80}-\x{10ffff}]{1,16}){0,7}$`)
)

func hasForm(form *regexp.Regexp, s string) bool {
	parts := strings.Split(s, "/")
	return utf8.ValidString(s) && !strings.ContainsRune(s, utf8.RuneError) && form.MatchString(s) && !slices.Contains(parts, ".") && !slices.Contains(parts, "..")
}

// mayBeElsewhere is the chapter's text once more, field by field.
func mayBeElsewhere(r api.Req) bool {
	o := r.Op
	if r.Client < 0 || r.Client > 7 || r.Time < 1 || r.Time > 1000 || o.Kind < 1 || o.Kind > 9 {
		return false
	}
	name, noName := hasForm(nameForm, o.Name), o.Name == ""
	if kind := o.Kind; kind == list || kind == prune || kind == held {
		name = noName
	}
	p := o.Path == ""
	if o.Kind == add || o.Kind == look {
		p = hasForm(pathForm, o.Path)
	}
	mostKeys, mostN := 0, 0
	if o.Kind == add {
		mostKeys = 16
	}
	if o.Kind == prune {
		mostN = 100
	}
	bad := func(key string) bool { return key == "" || len(key) > 64 }
	return name && p && len(o.Keys) <= mostKeys && !slices.ContainsFunc(o.Keys, bad) && 0 <= o.N && o.N <= mostN
}

// getElsewhere is a request of bytes by the library's own reader, whose numbers may be anything; false, if there is none, or it may not be.
func getElsewhere(b []byte) (api.Req, bool) {
	rest, ok := b, true
	num := func() int {
		n, size := binary.Uvarint(rest)
		if size <= 0 || n > 1<<20 {
			ok, rest = false, nil
			return 0
		}
		rest = rest[size:]
		return int(n)
	}
	text := func() string {
		n := num()
		if n > len(rest) {
			ok, rest = false, nil
			return ""
		}
		s := string(rest[:n])
		rest = rest[n:]
		return s
	}
	var r api.Req
	r.Client, r.Time, r.Op.Kind, r.Op.N = num(), num(), num(), num()
	r.Op.Name, r.Op.Path = text(), text()
	for i, count := 0, num(); ok && i < count; i++ {
		r.Op.Keys = append(r.Op.Keys, text())
	}
	// A number in too many bytes would be written in fewer.
	if !ok || len(rest) > 0 || !mayBeElsewhere(r) || !bytes.Equal(bytesElsewhere(r), b) {
		return api.Req{}, false
	}
	return r, true
}

// holdRequest: of a request all calls tell what the second writing does.
func holdRequest(t *testing.T, r api.Req) {
	t.Helper()
	err := Check(r)
	b, errPut := Put(r)
	if !mayBeElsewhere(r) {
		if err != api.ErrArg || errPut != api.ErrArg || b != nil {
			t.Fatalf("%s may not be: Check tells %v, Put %s, %v", show(r), err, show(b), errPut)
		}
		return
	}
	if err != nil || errPut != nil || !bytes.Equal(b, bytesElsewhere(r)) {
		t.Fatalf("%s may be: Check tells %v, Put %s, %v", show(r), err, show(b), errPut)
	}
	if got, err := Get(b); !same(got, r) || err != nil {
		t.Fatalf("%s was put, %s, %v is got", show(r), show(got), err)
	}
}

// holdBytes: of bytes Get tells what the second writing does, and what was got is put as these bytes. It tells whether there is a request.
func holdBytes(t *testing.T, b []byte) bool {
	t.Helper()
	want, ok := getElsewhere(b)
	r, err := Get(b)
	if !ok {
		if !isZero(r) || err != api.ErrForm {
			t.Fatalf("Get(%s) = %s, %v", show(b), show(r), err)
		}
		return false
	}
	if !same(r, want) || err != nil {
		t.Fatalf("Get(%s) = %s, %v; not %s", show(b), show(r), err, show(want))
	}
	if again, err := Put(r); !bytes.Equal(again, b) || err != nil {
		t.Fatalf("%s was got, %s, %v is put", show(b), show(again), err)
	}
	return true
}

// The second writing holds of what is written by hand.
func TestElsewhere(t *testing.T) {
	for _, c := range written() {
		if r, ok := getElsewhere([]byte(c.b)); !ok || !same(r, c.r) || string(bytesElsewhere(c.r)) != c.b {
			t.Errorf("%s, %v of %x", show(r), ok, c.b)
		}
	}
	for _, r := range reqs() {
		if !mayBeElsewhere(r) {
			t.Errorf("%s may not be", show(r))
		}
	}
	for _, r := range badReqs() {
		if mayBeElsewhere(r) {
			t.Errorf("%s may be", show(r))
		}
	}
}

// P8.1, P8.4: all operations of some values in each field, right and wrong ones of every kind.
func TestAllOperations(t *testing.T) {
	names := []string{"", "s", "é.", "a/b", "A", "..", text("x", 16), text("x", 17), "\xff"}
	paths := []string{"", "a", "a/b", "a//b", "/", "a/.", path(8, "a"), path(9, "a"), "\xc3"}
	keys := [][]string{
		nil, {}, {"x"}, {""}, {"x", ""}, {"\xff", "x"}, {text("k", 64)}, {text("k", 65)},
		slices.Repeat([]string{"x"}, 16), slices.Repeat([]string{"x"}, 17),
	}
	numbers := []int{math.MinInt, -1, 0, 1, 100, 101, math.MaxInt}
	may := 0
	for kind := -1; kind <= 11; kind++ {
		for _, name := range names {
			for _, p := range paths {
				for _, k := range keys {
					for _, n := range numbers {
						r := req(3, 300, api.Op{Kind: kind, Name: name, Path: p, Keys: k, N: n})
						holdRequest(t, r)
						if Check(r) == nil {
							may++
						}
					}
				}
			}
		}
	}
	// Three names; three paths; six lists of keys, two of them of none; three numbers, or 0.
	if want := 4*3*2 + 3*3*6 + 3*3*2 + 3*2 + 2*2; may != want {
		t.Errorf("%d of them may be, not %d", may, want)
	}
}

// P8.2, P8.4: bytes of every request that may be are got, and put again.
func TestGet(t *testing.T) {
	for _, r := range reqs() {
		b := bytesElsewhere(r)
		if got, err := Get(b); !same(got, r) || err != nil {
			t.Errorf("Get(%s) = %s, %v", show(b), show(got), err)
		}
		holdRequest(t, r)
		if !holdBytes(t, b) {
			t.Errorf("%s is no request", show(b))
		}
	}
}

// notBytes: there is ErrForm itself, and nothing beside it.
func notBytes(t *testing.T, what string, b []byte) {
	t.Helper()
	if r, err := Get(b); !isZero(r) || err != api.ErrForm {
		t.Fatalf("%s: Get(%s) = %s, %v", what, show(b), show(r), err)
	}
}

// P8.2, R3: no bytes, and bytes cut off anywhere, are no request's.
func TestCutOff(t *testing.T) {
	notBytes(t, "nil", nil)
	notBytes(t, "no bytes", []byte{})
	for _, r := range reqs() {
		b := bytesElsewhere(r)
		for n := range b {
			notBytes(t, "cut off", b[:n])
			// Without what stands behind the end, too.
			notBytes(t, "cut off, alone", slices.Clip(bytes.Clone(b[:n])))
		}
		// Without its first bytes it is another request's, or none's.
		for n := range b {
			holdBytes(t, b[n:])
		}
	}
}

// P8.2, R3: bytes with more behind them are no request's.
func TestMoreBehind(t *testing.T) {
	for _, r := range reqs() {
		b := bytesElsewhere(r)
		for x := range 256 {
			notBytes(t, "a byte more", append(slices.Clip(b), byte(x)))
		}
		notBytes(t, "twice", append(slices.Clip(b), b...))
		notBytes(t, "many more", append(slices.Clip(b), make([]byte, 5000)...))
	}
}

// P8.2: bytes with a byte left out, put between, or changed are those of another request, or none's.
func TestChangedBytes(t *testing.T) {
	var all []byte
	for x := range 256 {
		all = append(all, byte(x))
	}
	for _, c := range written() {
		b, values := []byte(c.b), all
		// Of long ones some bytes are enough: most of these stand in texts.
		if len(b) > 200 {
			values = []byte{0, 1, 2, '/', '0', 'A', 'a', 0x3f, 0x40, 0x41, 0x7f, 0x80, 0xff}
		}
		for i := range b {
			holdBytes(t, slices.Delete(bytes.Clone(b), i, i+1))
			for _, x := range values {
				holdBytes(t, slices.Insert(bytes.Clone(b), i, x))
				changed := bytes.Clone(b)
				changed[i] = x
				holdBytes(t, changed)
			}
		}
	}
}

// longer is a number with zeros as its highest digits.
func longer(b []byte, zeros int) []byte {
	out := bytes.Clone(b)
	for range zeros {
		out[len(out)-1] |= 0x80
		out = append(out, 0)
	}
	return out
}

// eachNumber goes through the numbers of all requests: one's bytes, and the request's bytes with others in their place.
func eachNumber(do func(number []byte, with func(other []byte) []byte)) {
	for _, r := range reqs() {
		pieces := piecesElsewhere(r)
		for i, piece := range pieces {
			if !isNumber(i) {
				continue
			}
			do(piece, func(other []byte) []byte {
				changed := slices.Clone(pieces)
				changed[i] = other
				return bytes.Join(changed, nil)
			})
		}
	}
}

// P8.2, R3: a number in too many bytes is none, wherever it stands.
func TestNumbersInTooManyBytes(t *testing.T) {
	eachNumber(func(number []byte, with func([]byte) []byte) {
		for zeros := 1; zeros <= 10; zeros++ {
			notBytes(t, "too many bytes", with(longer(number, zeros)))
		}
	})
}

// P8.2, R3: a number or a length that is too great is none's, wherever it stands, in an int's fewer bits, too.
func TestNumbersTooGreat(t *testing.T) {
	eachNumber(func(number []byte, with func([]byte) []byte) {
		n, _ := binary.Uvarint(number)
		for _, more := range []uint64{1 << 10, 1 << 12, 1 << 13, 1 << 16, 1 << 31, 1 << 32, 1 << 62, 1 << 63, math.MaxUint64 - n} {
			notBytes(t, "too great", with(binary.AppendUvarint(nil, n+more)))
		}
		ten := longer(number, 10-len(number))
		ten[9] = 2
		notBytes(t, "2^64 more", with(ten))
		notBytes(t, "eleven digits", with(append(bytes.Repeat([]byte{0xff}, 10), 1)))
	})
}

// P8.2: a request with a number or a length a little greater, or smaller, is another one, or none.
func TestNumbersBeside(t *testing.T) {
	eachNumber(func(number []byte, with func([]byte) []byte) {
		n, _ := binary.Uvarint(number)
		for d := uint64(1); d <= 3; d++ {
			holdBytes(t, with(binary.AppendUvarint(nil, n+d)))
			holdBytes(t, with(binary.AppendUvarint(nil, n-d)))
		}
	})
}

// P8.2, R3: bytes of a request that may not be are none's, though all of them are there.
func TestBytesOfWhatMayNotBe(t *testing.T) {
	for _, r := range badReqs() {
		notBytes(t, "may not be", bytesElsewhere(r))
	}
}

// P8.2: the edges of each number, told by bytes.
func TestEdgesOfBytes(t *testing.T) {
	for client := range 300 {
		is := holdBytes(t, bytesElsewhere(req(client, 1, api.Op{Kind: list})))
		if is != (client < 8) {
			t.Errorf("client %d: %v", client, is)
		}
	}
	for time := range 3000 {
		is := holdBytes(t, bytesElsewhere(req(0, time, api.Op{Kind: list})))
		if is != (1 <= time && time <= 1000) {
			t.Errorf("time %d: %v", time, is)
		}
	}
	for n := range 300 {
		is := holdBytes(t, bytesElsewhere(req(0, 1, api.Op{Kind: prune, N: n})))
		if is != (n <= 100) {
			t.Errorf("N %d: %v", n, is)
		}
	}
	for kind := range 300 {
		none := holdBytes(t, bytesElsewhere(req(0, 1, api.Op{Kind: kind})))
		name := holdBytes(t, bytesElsewhere(req(0, 1, api.Op{Kind: kind, Name: "s"})))
		both := holdBytes(t, bytesElsewhere(req(0, 1, api.Op{Kind: kind, Name: "s", Path: "a"})))
		got := [3]bool{none, name, both}
		want := map[int][3]bool{
			begin: {1: true}, add: {2: true}, commit: {1: true}, abort: {1: true}, list: {0: true},
			look: {2: true}, plan: {1: true}, prune: {0: true}, held: {0: true},
		}[kind]
		if got != want {
			t.Errorf("kind %d: %v, not %v", kind, got, want)
		}
	}
	for n := range 300 {
		is := holdBytes(t, bytesElsewhere(req(0, 1, api.Op{Kind: add, Name: "s", Path: "a", Keys: []string{text("k", n)}})))
		if is != (1 <= n && n <= 64) {
			t.Errorf("a key of %d bytes: %v", n, is)
		}
		is = holdBytes(t, bytesElsewhere(req(0, 1, api.Op{Kind: add, Name: "s", Path: "a", Keys: slices.Repeat([]string{"x"}, n)})))
		if is != (n <= 16) {
			t.Errorf("%d keys: %v", n, is)
		}
	}
}

// P1, P8.2, P8.4: all bytes of up to six of these, alone and behind some beginnings.
func TestAllShortBytes(t *testing.T) {
	chosen := []byte{0, 1, 2, 5, 8, 'a', 0x80, 0xff}
	// Of any kind; of a pruning; of a snapshot's begin; of a file's chunks; of a look at one.
	fronts := []string{"", "\x01\x02", "\x01\xac", "\x00\x01\x08", "\x00\x01\x01\x00", "\x00\x01\x02\x00\x01s", "\x00\x01\x06\x00\x01s"}
	got := 0
	var hold func(b []byte, more int)
	hold = func(b []byte, more int) {
		if holdBytes(t, b) {
			got++
		}
		if more == 0 {
			return
		}
		for _, x := range chosen {
			hold(append(slices.Clip(b), x), more-1)
		}
	}
	for _, front := range fronts {
		hold([]byte(front), 6)
	}
	if got < 100 {
		t.Errorf("only %d of them are requests'", got)
	}
}

// P1, P8.2, P8.4: bytes of requests, changed at several places, from a row of numbers that is always the same.
func TestManyChanges(t *testing.T) {
	row := rand.New(rand.NewSource(8))
	all := reqs()
	for range 100000 {
		b := bytesElsewhere(all[row.Intn(len(all))])
		for range 1 + row.Intn(3) {
			i := row.Intn(len(b) + 1)
			switch row.Intn(4) {
			case 0:
				b = slices.Insert(b, i, byte(row.Intn(256)))
			case 1:
				b = slices.Delete(b, i, min(len(b), i+1))
			case 2:
				b = b[:i]
			default:
				if i < len(b) {
					b[i] += byte(1 + row.Intn(255))
				}
			}
		}
		holdBytes(t, b)
	}
}

// P8.4: what was put is got as it was; what was got is put as those bytes; again and again.
func TestThereAndBack(t *testing.T) {
	for _, r := range reqs() {
		now := r
		var first []byte
		for i := range 3 {
			b, err := Put(now)
			if err != nil {
				t.Fatalf("Put(%s) = %v", show(now), err)
			}
			if i == 0 {
				first = b
			}
			got, err := Get(b)
			if err != nil || !same(got, r) || !bytes.Equal(b, first) {
				t.Fatalf("%s became %s, %s, %v", show(r), show(b), show(got), err)
			}
			if err := Check(got); err != nil {
				t.Fatalf("Check(%s) = %v", show(got), err)
			}
			now = got
		}
	}
}

// P8.4: two requests have the same bytes only if they are the same.
func TestBytesApart(t *testing.T) {
	seen := map[string]api.Req{}
	for _, r := range reqs() {
		b, err := Put(r)
		if err != nil {
			t.Fatal(err)
		}
		if other, ok := seen[string(b)]; ok && !same(other, r) {
			t.Errorf("%s and %s have the same bytes", show(other), show(r))
		}
		seen[string(b)] = r
	}
}

// P8.1, P8.2: keys that are nil and that are empty are the same request.
func TestNoKeys(t *testing.T) {
	for kind := begin; kind <= held; kind++ {
		for _, o := range ops() {
			if o.Kind != kind || len(o.Keys) > 0 {
				continue
			}
			var told [][]byte
			for _, keys := range [][]string{nil, {}, make([]string, 0, 20), slices.Repeat([]string{"x"}, 3)[:0]} {
				o.Keys = keys
				if err := Check(req(0, 1, o)); err != nil {
					t.Errorf("%s with no keys: %v", show(o), err)
				}
				b, err := Put(req(0, 1, o))
				if err != nil {
					t.Errorf("%s with no keys: %v", show(o), err)
				}
				told = append(told, b)
			}
			for _, b := range told {
				r, err := Get(b)
				if !bytes.Equal(b, told[0]) || len(r.Op.Keys) != 0 || err != nil {
					t.Errorf("%s with no keys: %s, %s, %v", show(o), show(told[0]), show(b), err)
				}
			}
		}
	}
}

// share tells whether two texts have a byte of memory in common. Texts of one byte are the language's own, and nobody's.
func share(a, b string) bool {
	if len(a) < 2 || len(b) < 2 {
		return false
	}
	x, y := uintptr(unsafe.Pointer(unsafe.StringData(a))), uintptr(unsafe.Pointer(unsafe.StringData(b)))
	return x < y+uintptr(len(b)) && y < x+uintptr(len(a))
}

// asText is bytes as a text of the same memory, what they have behind their end, too.
func asText(b []byte) string {
	b = b[:cap(b)]
	return unsafe.String(unsafe.SliceData(b), len(b))
}

func textsOf(r api.Req) []string { return append([]string{r.Op.Name, r.Op.Path}, r.Op.Keys...) }

// P8.3, R2: a request that is handed in stays as it is, what its keys have behind their end, too.
func TestRequestStays(t *testing.T) {
	for _, r := range append(reqs(), badReqs()...) {
		behind := append(slices.Clone(r.Op.Keys), "behind", "", "it")
		r.Op.Keys = behind[:len(r.Op.Keys)]
		kept, keptBehind := copyOf(r), slices.Clone(behind)
		Check(r)
		Put(r)
		if !same(r, kept) || !slices.Equal(behind, keptBehind) {
			t.Errorf("%s became %s, %q", show(kept), show(r), behind)
		}
	}
}

// P8.3, R2: bytes that are handed in stay as they are, what they have behind their end, too.
func TestBytesStay(t *testing.T) {
	for _, r := range append(reqs(), badReqs()...) {
		b := bytesElsewhere(r)
		whole := append(bytes.Clone(b), "behind it"...)
		kept := bytes.Clone(whole)
		for n := 0; n <= len(whole); n += 1 + len(whole)/50 {
			Get(whole[:n])
		}
		Get(whole[:len(b)])
		if !bytes.Equal(whole, kept) {
			t.Errorf("%s became %s", show(kept), show(whole))
		}
	}
}

// P8.3, R2: bytes that are told are new memory, and may be changed: what is told again is as it was.
func TestBytesAreNew(t *testing.T) {
	for _, r := range reqs() {
		want := bytesElsewhere(r)
		kept := copyOf(r)
		one, _ := Put(r)
		two, _ := Put(r)
		for _, s := range append(textsOf(r), asText(two)) {
			if share(asText(one), s) {
				t.Fatalf("Put(%s) shares memory with %q", show(r), s)
			}
		}
		got, err := Get(one)
		if err != nil {
			t.Fatal(err)
		}
		clear(one[:cap(one)])
		if !bytes.Equal(two, want) || !same(r, kept) || !same(got, kept) {
			t.Fatalf("a change of what was told made %s, %s, %s of others", show(two), show(r), show(got))
		}
		if three, err := Put(r); !bytes.Equal(three, want) || err != nil {
			t.Fatalf("a change of what was told was kept: %s, %v", show(three), err)
		}
	}
}

// P8.3, R2: a request that is told is new memory, and may be changed: what is told again is as it was.
func TestRequestIsNew(t *testing.T) {
	for _, r := range reqs() {
		b := bytesElsewhere(r)
		kept := bytes.Clone(b)
		one, _ := Get(b)
		two, _ := Get(b)
		for _, s := range textsOf(one) {
			for _, other := range append(textsOf(two), asText(b)) {
				if share(s, other) {
					t.Fatalf("Get(%s): %q shares memory with %q", show(b), s, other)
				}
			}
		}
		keys := one.Op.Keys[:cap(one.Op.Keys)]
		for i := range keys {
			keys[i] = "changed"
		}
		one.Op.Keys = append(one.Op.Keys, "more")
		one.Op.Name, one.Client = "changed", -1
		if !same(two, r) || !bytes.Equal(b, kept) {
			t.Fatalf("a change of what was told made %s, %s of others", show(two), show(b))
		}
		if three, err := Get(b); !same(three, r) || err != nil {
			t.Fatalf("a change of what was told was kept: %s, %v", show(three), err)
		}
		clear(b)
		if !same(two, r) {
			t.Fatalf("a change of what was handed in made %s of %s", show(two), show(r))
		}
		if _, err := Get(b); err != api.ErrForm {
			t.Fatalf("Get(%s) = %v", show(b), err)
		}
	}
}

// P8.3: what was handed in may be changed behind the call, and isn't asked again.
func TestNothingIsKept(t *testing.T) {
	keys := []string{"x", "y"}
	r := req(1, 2, api.Op{Kind: add, Name: "s", Path: "a", Keys: keys})
	b, err := Put(r)
	if err != nil {
		t.Fatal(err)
	}
	want := bytes.Clone(b)
	keys[0] = ""
	if !bytes.Equal(b, want) {
		t.Errorf("%s became %s", show(want), show(b))
	}
	if err := Check(r); err != api.ErrArg {
		t.Errorf("Check(%s) = %v", show(r), err)
	}
	keys[0] = "z"
	if b, err := Put(r); err != nil || !bytes.Equal(b, bytesElsewhere(r)) {
		t.Errorf("Put(%s) = %s, %v", show(r), show(b), err)
	}
}

// P1: long texts, many keys and many bytes are gone through, too.
func TestLong(t *testing.T) {
	const n = 1 << 20
	for _, s := range []string{text("a", n), text("/", n), text("a/", n), text("\xff", n), text("日", n), text("\x00", n)} {
		for kind := -1; kind <= 11; kind++ {
			for _, o := range []api.Op{{Name: s}, {Path: s}, {Name: "s", Path: s}, {Name: s, Path: "a"}, {Name: "s", Path: "a", Keys: []string{s}}, {Name: s, Path: s, Keys: []string{s}}} {
				o.Kind = kind
				if err := Check(req(0, 1, o)); err != api.ErrArg {
					t.Errorf("Check(%s) = %v", show(o.Kind), err)
				}
			}
		}
		for _, front := range []string{"", "\x00", "\x00\x01\x01\x00", "\x00\x01\x01\x00\x80\x20", "\x00\x01\x02\x00\x01s\x01a\x10", "\x00\x01\x02\x00\x01s\x01a\xff\xff\x7f"} {
			notBytes(t, "long", []byte(front+s))
		}
	}
	for _, key := range []string{"", "x"} {
		keys := slices.Repeat([]string{key}, n)
		for kind := -1; kind <= 11; kind++ {
			r := req(0, 1, api.Op{Kind: kind, Name: "s", Path: "a", Keys: keys})
			if err := Check(r); err != api.ErrArg {
				t.Fatalf("%d keys of kind %d: Check tells %v", n, kind, err)
			}
			if b, err := Put(r); b != nil || err != api.ErrArg {
				t.Fatalf("%d keys of kind %d: Put tells %s, %v", n, kind, show(b), err)
			}
		}
	}
}
