package tape

import (
	"bytes"
	"math"
	"slices"
	"strconv"
	"testing"
	"unsafe"

	"becket/api"
)

// held is a tape of these bytes, the first synced of which were synced.
func held(t *testing.T, b []byte, synced int) *Tape {
	t.Helper()
	p := New()
	must(t, p.Append(b[:synced]))
	p.Sync()
	must(t, p.Append(b[synced:]))
	is(t, "the tape to begin with", p, b, synced)
	return p
}

func must(t *testing.T, err error) {
	t.Helper()
	if err != nil {
		t.Fatal(err)
	}
}

// is looks at a tape twice: looking changes nothing.
func is(t *testing.T, what string, p *Tape, b []byte, synced int) {
	t.Helper()
	for range 2 {
		if got := p.Bytes(); !bytes.Equal(got, b) {
			t.Errorf("%s: Bytes() = %s, not %s", what, show(got), show(b))
		}
		if got := p.Synced(); got != synced {
			t.Errorf("%s: Synced() = %d, not %d", what, got, synced)
		}
	}
}

// show tells bytes, of many only how many there are.
func show(b []byte) string {
	if len(b) > 40 {
		return strconv.Itoa(len(b)) + " bytes"
	}
	return strconv.Quote(string(b))
}

// mixed are n bytes of all kinds: a piece that is moved, or missing, is seen.
func mixed(n int) []byte {
	b := make([]byte, n)
	for i := range b {
		b[i] = byte(i%251 + i/251)
	}
	return b
}

// P5.1: a new tape has no bytes, and each is one of its own.
func TestNew(t *testing.T) {
	p, q := New(), New()
	if p == nil || q == nil || p == q {
		t.Fatal("New() told no tape, or one twice")
	}
	is(t, "New()", p, nil, 0)
	must(t, p.Append([]byte{1, 2}))
	p.Sync()
	is(t, "a tape", p, []byte{1, 2}, 2)
	is(t, "the other tape", q, nil, 0)
	must(t, q.Append([]byte{3}))
	is(t, "a tape", p, []byte{1, 2}, 2)
	is(t, "the other tape", q, []byte{3}, 0)
	is(t, "a third one", New(), nil, 0)
}

// P5.1: what is appended stands behind all, in its order, and isn't synced.
func TestAppend(t *testing.T) {
	for _, c := range []struct {
		parts []string
		want  string
	}{
		{nil, ""},
		{[]string{""}, ""},
		{[]string{"", "", ""}, ""},
		{[]string{"a"}, "a"},
		{[]string{"\x00"}, "\x00"},
		{[]string{"", "a", ""}, "a"},
		{[]string{"a", "b"}, "ab"},
		{[]string{"b", "a"}, "ba"},
		{[]string{"ab", "ab"}, "abab"},
		{[]string{"\x00\x00", "\xff", "\x80\n"}, "\x00\x00\xff\x80\n"},
		{[]string{"abc", "", "d", "ef"}, "abcdef"},
	} {
		p := New()
		for _, s := range c.parts {
			must(t, p.Append([]byte(s)))
		}
		is(t, strconv.Itoa(len(c.parts))+" Appends", p, []byte(c.want), 0)
	}
	p := New()
	must(t, p.Append(nil))
	is(t, "Append(nil)", p, nil, 0)
}

// P5.1: each byte is taken as it is.
func TestAppendEachByte(t *testing.T) {
	p := New()
	var want []byte
	for x := range 256 {
		must(t, p.Append([]byte{byte(x)}))
		want = append(want, byte(x))
	}
	is(t, "each byte", p, want, 0)
}

// P5.1: MaxTape bytes are taken, in one Append and in several.
func TestAppendUpToTheLimit(t *testing.T) {
	all := mixed(1 << 20)
	for _, sizes := range [][]int{
		{1 << 20},
		{1<<20 - 1, 1},
		{1, 1<<20 - 1},
		{1 << 19, 1 << 19},
		{1 << 16, 1 << 19, 1<<19 - 1<<16},
		{0, 1 << 20, 0},
	} {
		p := New()
		at := 0
		for _, n := range sizes {
			must(t, p.Append(all[at:at+n]))
			at += n
		}
		is(t, "a full tape", p, all, 0)
		must(t, p.Append(nil))
		must(t, p.Append([]byte{}))
		is(t, "a full tape, no bytes appended", p, all, 0)
		p.Sync()
		must(t, p.Append(nil))
		is(t, "a full tape, synced", p, all, 1<<20)
	}
}

// P5.1: an Append that doesn't fit is told, and does nothing.
func TestAppendTooMuch(t *testing.T) {
	for _, c := range []struct{ has, synced, more int }{
		{0, 0, 1<<20 + 1},
		{0, 0, 1<<20 + 2},
		{0, 0, 1 << 21},
		{0, 0, 1<<24 + 1},
		{1, 0, 1 << 20},
		{1, 1, 1 << 20},
		{1, 1, 1<<20 + 5},
		{2, 1, 1<<20 - 1},
		{1 << 19, 0, 1<<19 + 1},
		{1 << 19, 100, 1 << 20},
		{1<<20 - 1, 0, 2},
		{1<<20 - 1, 1<<20 - 1, 2},
		{1<<20 - 1, 7, 1 << 20},
		{1 << 20, 0, 1},
		{1 << 20, 3, 1},
		{1 << 20, 1 << 20, 1},
		{1 << 20, 1 << 20, 1 << 20},
	} {
		b := mixed(c.has)
		p := held(t, b, c.synced)
		for range 2 {
			if err := p.Append(make([]byte, c.more)); err != api.ErrFull {
				t.Errorf("%d bytes behind %d: %v", c.more, c.has, err)
			}
			is(t, "behind ErrFull", p, b, c.synced)
		}
		// What does fit is taken as ever.
		rest := slices.Repeat([]byte{9}, 1<<20-c.has)
		must(t, p.Append(rest))
		is(t, "filled up", p, slices.Concat(b, rest), c.synced)
		p.Crash(1)
		is(t, "filled up, crashed", p, slices.Concat(b, rest)[:min(c.synced+1, 1<<20)], min(c.synced+1, 1<<20))
	}
}

// P5.1, P5.2: what was cut off or lost makes room again.
func TestRoomAgain(t *testing.T) {
	all := mixed(1 << 20)
	p := held(t, all, 10)
	p.Crash(0)
	is(t, "crashed", p, all[:10], 10)
	if err := p.Append(all[9:]); err != api.ErrFull {
		t.Errorf("one too many: %v", err)
	}
	must(t, p.Append(all[10:]))
	is(t, "full again", p, all, 10)
	must(t, p.Cut(1<<20-1))
	if err := p.Append([]byte{1, 2}); err != api.ErrFull {
		t.Errorf("one too many: %v", err)
	}
	must(t, p.Append([]byte{5}))
	is(t, "full once more", p, append(slices.Clone(all[:1<<20-1]), 5), 1<<20-1)
	must(t, p.Cut(0))
	must(t, p.Append(all))
	is(t, "full from the front", p, all, 0)
}

// P5.1: Sync of nothing, of some, of all, and twice.
func TestSync(t *testing.T) {
	p := New()
	p.Sync()
	is(t, "nothing synced", p, nil, 0)
	must(t, p.Append([]byte{1}))
	is(t, "one byte", p, []byte{1}, 0)
	p.Sync()
	is(t, "one byte synced", p, []byte{1}, 1)
	p.Sync()
	is(t, "synced twice", p, []byte{1}, 1)
	must(t, p.Append([]byte{2, 3}))
	is(t, "some synced", p, []byte{1, 2, 3}, 1)
	must(t, p.Append(nil))
	is(t, "some synced, nothing appended", p, []byte{1, 2, 3}, 1)
	must(t, p.Append([]byte{4}))
	is(t, "some synced", p, []byte{1, 2, 3, 4}, 1)
	p.Sync()
	p.Sync()
	is(t, "all synced", p, []byte{1, 2, 3, 4}, 4)
}

// P5.1: of what wasn't synced the first n stay, and all that is there was synced.
func TestCrash(t *testing.T) {
	for _, c := range []struct {
		b      string
		synced int
		n      int
		want   string
	}{
		{"\x01\x02\x03\x04", 2, 1, "\x01\x02\x03"},
		{"abcdef", 3, math.MinInt, "abc"},
		{"abcdef", 3, math.MinInt + 1, "abc"},
		{"abcdef", 3, -4, "abc"},
		{"abcdef", 3, -3, "abc"},
		{"abcdef", 3, -1, "abc"},
		{"abcdef", 3, 0, "abc"},
		{"abcdef", 3, 1, "abcd"},
		{"abcdef", 3, 2, "abcde"},
		{"abcdef", 3, 3, "abcdef"},
		{"abcdef", 3, 4, "abcdef"},
		{"abcdef", 3, 6, "abcdef"},
		{"abcdef", 3, 7, "abcdef"},
		{"abcdef", 3, math.MaxInt - 3, "abcdef"},
		{"abcdef", 3, math.MaxInt - 2, "abcdef"},
		{"abcdef", 3, math.MaxInt, "abcdef"},
		// Numbers that are 0 or 1, if only their lowest bits are looked at.
		{"abcdef", 3, 1 << 32, "abcdef"},
		{"abcdef", 3, 1<<32 + 1, "abcdef"},
		{"abcdef", 3, 1<<31 + 1, "abcdef"},
		{"abcdef", 3, -1<<32 + 1, "abc"},
		// Nothing was synced.
		{"abc", 0, -1, ""},
		{"abc", 0, 0, ""},
		{"abc", 0, 1, "a"},
		{"abc", 0, 3, "abc"},
		{"abc", 0, 4, "abc"},
		{"abc", 0, math.MaxInt, "abc"},
		// All was synced: the crash is right behind a Sync.
		{"abc", 3, math.MinInt, "abc"},
		{"abc", 3, -1, "abc"},
		{"abc", 3, 0, "abc"},
		{"abc", 3, 1, "abc"},
		{"abc", 3, 2, "abc"},
		{"abc", 3, 3, "abc"},
		{"abc", 3, math.MaxInt, "abc"},
		// Ahead of any Append.
		{"", 0, math.MinInt, ""},
		{"", 0, -1, ""},
		{"", 0, 0, ""},
		{"", 0, 1, ""},
		{"", 0, math.MaxInt, ""},
	} {
		p := held(t, []byte(c.b), c.synced)
		p.Crash(c.n)
		is(t, "Crash("+strconv.Itoa(c.n)+") of "+strconv.Quote(c.b), p, []byte(c.want), len(c.want))
		// What stayed was synced, so a second crash takes nothing.
		for _, n := range []int{0, -1, 1, math.MaxInt} {
			p.Crash(n)
			is(t, "crashed twice", p, []byte(c.want), len(c.want))
		}
		// What was lost doesn't come again.
		must(t, p.Append([]byte("z")))
		is(t, "appended behind a crash", p, []byte(c.want+"z"), len(c.want))
		p.Crash(5)
		is(t, "crashed behind it", p, []byte(c.want+"z"), len(c.want)+1)
	}
}

// P5.1: what stands behind the synced bytes counts from several Appends on.
func TestCrashAcrossAppends(t *testing.T) {
	for n, want := range []string{"ab", "abc", "abcd", "abcde", "abcdef", "abcdefg", "abcdefg"} {
		p := New()
		must(t, p.Append([]byte("a")))
		must(t, p.Append([]byte("b")))
		p.Sync()
		must(t, p.Append([]byte("cd")))
		must(t, p.Append(nil))
		must(t, p.Append([]byte("e")))
		must(t, p.Append([]byte("fg")))
		p.Crash(n)
		is(t, "Crash("+strconv.Itoa(n)+")", p, []byte(want), len(want))
	}
}

// P5.2: only the first n stay, and were synced.
func TestCut(t *testing.T) {
	for _, c := range []struct {
		b      string
		synced int
		n      int
	}{
		{"abcdef", 3, 0},
		{"abcdef", 3, 1},
		{"abcdef", 3, 2},
		{"abcdef", 3, 3},
		{"abcdef", 3, 4},
		{"abcdef", 3, 5},
		{"abcdef", 3, 6},
		{"abcdef", 0, 0},
		{"abcdef", 0, 1},
		{"abcdef", 0, 6},
		{"abcdef", 6, 0},
		{"abcdef", 6, 5},
		{"abcdef", 6, 6},
		{"a", 0, 0},
		{"a", 0, 1},
		{"", 0, 0},
	} {
		what := "Cut(" + strconv.Itoa(c.n) + ") of " + strconv.Quote(c.b)
		want := []byte(c.b[:c.n])
		p := held(t, []byte(c.b), c.synced)
		for range 2 {
			must(t, p.Cut(c.n))
			is(t, what, p, want, c.n)
		}
		p.Crash(0)
		is(t, what+", crashed", p, want, c.n)
		must(t, p.Append([]byte("yz")))
		is(t, what+", appended", p, append(slices.Clone(want), "yz"...), c.n)
		p.Crash(1)
		is(t, what+", appended, crashed", p, append(slices.Clone(want), 'y'), c.n+1)
	}
}

// P5.2: where n isn't 0 to how many there are, ErrArg itself is told, and nothing is cut off or synced.
func TestCutWrong(t *testing.T) {
	for _, c := range []struct {
		b      string
		synced int
		n      int
	}{
		{"", 0, -1},
		{"", 0, 1},
		{"", 0, math.MinInt},
		{"", 0, math.MaxInt},
		{"a", 0, -1},
		{"a", 0, 2},
		{"a", 1, 2},
		{"abcdef", 3, math.MinInt},
		{"abcdef", 3, -7},
		{"abcdef", 3, -6},
		{"abcdef", 3, -3},
		{"abcdef", 3, -1},
		{"abcdef", 3, 7},
		{"abcdef", 3, 8},
		{"abcdef", 3, 9},
		{"abcdef", 3, 1 << 20},
		{"abcdef", 3, 1 << 32},
		{"abcdef", 3, 1<<32 + 2},
		{"abcdef", 3, -1<<32 + 2},
		{"abcdef", 3, math.MaxInt},
		{"abcdef", 6, 7},
		{"abcdef", 6, -1},
		{"abcdef", 0, 7},
		{"abcdef", 0, -1},
	} {
		p := held(t, []byte(c.b), c.synced)
		for range 2 {
			if err := p.Cut(c.n); err != api.ErrArg {
				t.Errorf("Cut(%d) of %q: %v", c.n, c.b, err)
			}
			is(t, "behind ErrArg", p, []byte(c.b), c.synced)
		}
	}
}

// P5.2: what was cut off or lost is behind the end, though there was room for it.
func TestCutCountsWhatIsThere(t *testing.T) {
	p := held(t, []byte("abcdef"), 2)
	must(t, p.Cut(4))
	if err := p.Cut(5); err != api.ErrArg {
		t.Errorf("Cut behind what a Cut left: %v", err)
	}
	is(t, "cut", p, []byte("abcd"), 4)
	p = held(t, []byte("abcdef"), 2)
	p.Crash(1)
	if err := p.Cut(4); err != api.ErrArg {
		t.Errorf("Cut behind what a crash left: %v", err)
	}
	is(t, "crashed", p, []byte("abc"), 3)
	full := held(t, mixed(1<<20), 5)
	if err := full.Cut(1<<20 + 1); err != api.ErrArg {
		t.Errorf("Cut behind a full tape: %v", err)
	}
	must(t, full.Cut(1<<20))
	is(t, "a full tape, all left", full, mixed(1<<20), 1<<20)
}

// share tells whether two lists have memory in common, behind their ends too.
func share(a, b []byte) bool {
	a, b = a[:cap(a)], b[:cap(b)]
	if len(a) == 0 || len(b) == 0 {
		return false
	}
	from, to := uintptr(unsafe.Pointer(&a[0])), uintptr(unsafe.Pointer(&b[0]))
	return from < to+uintptr(len(b)) && to < from+uintptr(len(a))
}

// P5.3: what is handed in stays as it is, behind its end too, and isn't kept.
func TestHandedIn(t *testing.T) {
	for _, n := range []int{0, 1, 2, 8, 33, 1000, 1 << 20} {
		backing := mixed(n + 16)
		ahead := slices.Clone(backing)
		b := backing[8 : 8+n]
		want := slices.Clone(b)
		p := New()
		must(t, p.Append(b))
		if !bytes.Equal(backing, ahead) {
			t.Errorf("Append of %d bytes changed what was handed in", n)
		}
		// Nothing else may change it either, nor be changed by it.
		for i := range backing {
			backing[i] ^= 0x55
		}
		ahead = slices.Clone(backing)
		is(t, "what was handed in, changed", p, want, 0)
		p.Sync()
		is(t, "synced", p, want, n)
		if n < 1<<20 {
			must(t, p.Append([]byte{77}))
		}
		p.Crash(0)
		is(t, "crashed", p, want, n)
		must(t, p.Cut(n/2))
		must(t, p.Append(bytes.Repeat([]byte{78}, n-n/2)))
		if !bytes.Equal(backing, ahead) {
			t.Errorf("what was handed in (%d bytes) was changed later", n)
		}
		if share(p.Bytes(), backing) || share(p.bytes, backing) {
			t.Errorf("what was handed in (%d bytes) is kept", n)
		}
	}
}

// P5.3: what doesn't fit is neither changed nor kept.
func TestHandedInTooMuch(t *testing.T) {
	p := held(t, []byte("ab"), 1)
	b := mixed(1 << 20)
	if err := p.Append(b); err != api.ErrFull {
		t.Fatal(err)
	}
	if !bytes.Equal(b, mixed(1<<20)) {
		t.Error("what was handed in was changed")
	}
	clear(b)
	is(t, "behind it", p, []byte("ab"), 1)
}

// P5.3: one list handed in twice, and to two tapes, is each time a copy.
func TestHandedInTwice(t *testing.T) {
	p, q := New(), New()
	b := []byte("ab")
	must(t, p.Append(b))
	must(t, q.Append(b))
	b[0] = 'x'
	must(t, p.Append(b))
	b[1] = 'y'
	is(t, "twice", p, []byte("abxb"), 0)
	is(t, "once", q, []byte("ab"), 0)
	must(t, p.Cut(0))
	must(t, p.Append([]byte("zz")))
	is(t, "the other tape", q, []byte("ab"), 0)
}

// P5.3: what is told is new memory, each time.
func TestTold(t *testing.T) {
	for _, n := range []int{0, 1, 5, 8, 100, 4096, 1 << 20} {
		b := mixed(n)
		p := held(t, b, n/2)
		first, second := p.Bytes(), p.Bytes()
		if share(first, second) || share(first, p.bytes) || share(second, p.bytes) {
			t.Errorf("of %d bytes memory is shared", n)
		}
		for i := range first {
			first[i] ^= 0xff
		}
		is(t, "what was told, changed", p, b, n/2)
		first = append(first, 1, 2, 3)
		clear(first[:cap(first)])
		is(t, "what was told, appended to", p, b, n/2)
		if !bytes.Equal(second, b) {
			t.Errorf("of %d bytes two tellings are one", n)
		}
		// What the tape does later doesn't reach what was told.
		if n < 1<<20 {
			must(t, p.Append([]byte{1}))
		}
		p.Crash(1)
		must(t, p.Cut(0))
		must(t, p.Append(make([]byte, n)))
		if !bytes.Equal(second, b) {
			t.Errorf("what was told of %d bytes was changed later", n)
		}
	}
}

// P5.3: what was told of an empty tape may be appended to, though bytes were there and are lost.
func TestToldOfAnEmptiedTape(t *testing.T) {
	p := held(t, []byte("abcdef"), 3)
	must(t, p.Cut(0))
	none := p.Bytes()
	none = append(none, "xyz"...)
	is(t, "emptied", p, nil, 0)
	must(t, p.Append([]byte("gh")))
	if string(none) != "xyz" {
		t.Errorf("what was told is %s", show(none))
	}
	is(t, "appended", p, []byte("gh"), 0)
}

// P5.3: a tape's own bytes, told, may be handed in to it.
func TestToldHandedIn(t *testing.T) {
	p := held(t, []byte("abc"), 1)
	must(t, p.Append(p.Bytes()))
	is(t, "doubled", p, []byte("abcabc"), 1)
	b := p.Bytes()[:2]
	must(t, p.Append(b))
	b[0] = 'z'
	is(t, "a piece more", p, []byte("abcabcab"), 1)
}

// slow is the chapter's tape, written another way: each byte says whether it was synced.
type slow []struct {
	b      byte
	synced bool
}

func (s *slow) syncAll() {
	for i := range *s {
		(*s)[i].synced = true
	}
}

func (s *slow) append(b []byte) {
	for _, x := range b {
		*s = append(*s, struct {
			b      byte
			synced bool
		}{x, false})
	}
}

func (s *slow) crash(n int) {
	var left slow
	for _, x := range *s {
		if x.synced {
			left = append(left, x)
		} else if n > 0 {
			n--
			left = append(left, x)
		}
	}
	*s = left
	s.syncAll()
}

func (s *slow) cut(n int) error {
	if n < 0 || n > len(*s) {
		return api.ErrArg
	}
	*s = slices.Clone((*s)[:n])
	s.syncAll()
	return nil
}

func (s *slow) bytes() []byte {
	var l []byte
	for _, x := range *s {
		l = append(l, x.b)
	}
	return l
}

func (s *slow) synced() int {
	n := 0
	for _, x := range *s {
		if x.synced {
			n++
		}
	}
	return n
}

// step is a call: of Append the bytes hang on its place, so that no two are alike.
type step struct {
	kind string
	n    int
}

func allSteps() []step {
	return []step{
		{"append", 0}, {"append", 1}, {"append", 3},
		{"sync", 0},
		{"crash", -1}, {"crash", 0}, {"crash", 1}, {"crash", 2}, {"crash", math.MaxInt},
		{"cut", -1}, {"cut", 0}, {"cut", 1}, {"cut", 2}, {"cut", 4},
	}
}

// do does a step on both, and tells whether they tell the same error.
func do(p *Tape, s *slow, a step, place int) bool {
	switch a.kind {
	case "append":
		b := make([]byte, a.n)
		for i := range b {
			b[i] = byte(10*place + i + 1)
		}
		s.append(b)
		return p.Append(b) == nil
	case "sync":
		s.syncAll()
		p.Sync()
	case "crash":
		s.crash(a.n)
		p.Crash(a.n)
	case "cut":
		return p.Cut(a.n) == s.cut(a.n)
	}
	return true
}

// walk does all steps, in all orders of a length.
func walk(t *testing.T, length int, each func(steps []step)) {
	steps := make([]step, 0, length)
	var on func()
	on = func() {
		if t.Failed() {
			return
		}
		if len(steps) == length {
			each(steps)
			return
		}
		for _, a := range allSteps() {
			steps = append(steps, a)
			on()
			steps = steps[:len(steps)-1]
		}
	}
	on()
}

// P5.1, P5.2: all calls of up to five, in all orders, come to what the chapter's words come to.
func TestAllCallsInAllOrders(t *testing.T) {
	walk(t, 5, func(steps []step) {
		p, s := New(), new(slow)
		for place, a := range steps {
			if !do(p, s, a, place) {
				t.Errorf("%v: another error at %d", steps, place)
			}
			if got, want := p.Bytes(), s.bytes(); !bytes.Equal(got, want) {
				t.Errorf("%v: Bytes() = %v behind %d, not %v", steps, got, place, want)
			}
			if got, want := p.Synced(), s.synced(); got != want {
				t.Errorf("%v: Synced() = %d behind %d, not %d", steps, got, place, want)
			}
		}
	})
}

// P5.4: behind every crash all is there that was synced, nothing that wasn't there ahead of it, and what stays has its order.
func TestSyncedBearsCrashes(t *testing.T) {
	walk(t, 4, func(steps []step) {
		p := New()
		for place, a := range steps {
			do(p, new(slow), a, place)
			all, synced := p.Bytes(), p.Synced()
			if a.kind == "sync" && synced != len(all) {
				t.Errorf("%v: Sync left some", steps)
			}
			for _, n := range []int{math.MinInt, -1, 0, 1, 2, 3, len(all), math.MaxInt} {
				q := held(t, all, synced)
				q.Crash(n)
				left := q.Bytes()
				if !bytes.HasPrefix(left, all[:synced]) || !bytes.HasPrefix(all, left) {
					t.Errorf("%v: of %v, %d synced, Crash(%d) left %v", steps, all, synced, n, left)
				}
				if q.Synced() != len(left) {
					t.Errorf("%v: behind Crash(%d) %d of %v were synced", steps, n, q.Synced(), left)
				}
			}
		}
	})
}

// P5.4: what was synced outlives a row of crashes, Appends between them, on a long tape.
func TestSyncedBearsARowOfCrashes(t *testing.T) {
	p := New()
	var want []byte
	for i := range 500 {
		b := mixed(i % 37)
		must(t, p.Append(b))
		want = append(want, b...)
		if i%3 == 0 {
			p.Sync()
		}
		synced := p.Synced()
		lost := slices.Clone(want[synced:])
		if i%5 == 0 {
			p.Crash(i%7 - 1)
			kept := min(max(i%7-1, 0), len(lost))
			want = append(want[:synced:synced], lost[:kept]...)
			is(t, "crash "+strconv.Itoa(i), p, want, len(want))
		}
		if got := p.Bytes(); !bytes.Equal(got, want) {
			t.Fatalf("at %d: %s, not %s", i, show(got), show(want))
		}
	}
	if len(want) < 1000 {
		t.Errorf("the row left only %d bytes", len(want))
	}
}

// P1: no number makes a call panic, whatever the tape is.
func TestAllNumbers(t *testing.T) {
	for _, n := range []int{math.MinInt, math.MinInt + 1, -1 << 32, -1<<20 - 1, -2, -1, 0, 1, 2, 1 << 20, 1<<20 + 1, 1 << 31, 1 << 32, math.MaxInt - 1, math.MaxInt} {
		for _, size := range []int{0, 1, 2, 1 << 20} {
			for _, synced := range []int{0, size / 2, size} {
				p := New()
				must(t, p.Append(make([]byte, synced)))
				p.Sync()
				must(t, p.Append(make([]byte, size-synced)))
				if err := p.Cut(n); (err == nil) != (0 <= n && n <= size) {
					t.Errorf("Cut(%d) of %d: %v", n, size, err)
				}
				p.Crash(n)
				p.Sync()
				if len(p.Bytes()) != p.Synced() {
					t.Errorf("%d of %d were synced", p.Synced(), len(p.Bytes()))
				}
			}
		}
	}
}
