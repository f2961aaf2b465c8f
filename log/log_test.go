package log

import (
	"bytes"
	"math"
	"slices"
	"strconv"
	"strings"
	"testing"
	"unsafe"

	"becket/api"
	"becket/tape"
)

const most = 1 << 16 // MaxRecord, written out

func must(t *testing.T, err error) {
	t.Helper()
	if err != nil {
		t.Fatal(err)
	}
}

// mixed are n bytes of all kinds: a piece that is moved, or missing, is seen.
func mixed(n int) []byte {
	b := make([]byte, n)
	for i := range b {
		b[i] = byte(i%251 + i/251 + n)
	}
	return b
}

// header is a number as the first chapter has it, written out for each count of digits.
func header(n int) []byte {
	switch {
	case n < 1<<7:
		return []byte{byte(n)}
	case n < 1<<14:
		return []byte{byte(n%128 + 128), byte(n / 128)}
	default:
		return []byte{byte(n%128 + 128), byte(n/128%128 + 128), byte(n / (128 * 128))}
	}
}

// laid are records as they stand on a tape.
func laid(records ...[]byte) []byte {
	var b []byte
	for _, r := range records {
		b = append(b, header(len(r))...)
		b = append(b, r...)
	}
	return b
}

// texts are records of these texts.
func texts(list ...string) [][]byte {
	var records [][]byte
	for _, s := range list {
		records = append(records, []byte(s))
	}
	return records
}

// tapeOf is a tape of these bytes, the first synced of which were synced.
func tapeOf(t *testing.T, b []byte, synced int) *tape.Tape {
	t.Helper()
	p := tape.New()
	must(t, p.Append(b[:synced]))
	p.Sync()
	must(t, p.Append(b[synced:]))
	return p
}

func open(t *testing.T, p *tape.Tape) *Log {
	t.Helper()
	l, err := Open(p)
	if err != nil || l == nil {
		t.Fatalf("Open told %v, %v", l, err)
	}
	return l
}

// newLog is a log on a tape that has none but these records.
func newLog(t *testing.T, records ...[]byte) (*Log, *tape.Tape) {
	t.Helper()
	p := tape.New()
	l := open(t, p)
	for _, r := range records {
		must(t, l.Append(r))
	}
	return l, p
}

// show tells bytes, of many only how many there are.
func show(b []byte) string {
	if len(b) > 40 {
		return strconv.Itoa(len(b)) + " bytes"
	}
	return strconv.Quote(string(b))
}

func showAll(records [][]byte) string {
	var list []string
	for _, r := range records[:min(len(records), 20)] {
		list = append(list, show(r))
	}
	return strconv.Itoa(len(records)) + " (" + strings.Join(list, " ") + ")"
}

func same(a, b [][]byte) bool { return slices.EqualFunc(a, b, bytes.Equal) }

// has looks at a log twice: looking changes nothing.
func has(t *testing.T, what string, l *Log, records [][]byte) {
	t.Helper()
	for range 2 {
		if got := l.Records(); !same(got, records) {
			t.Errorf("%s: Records() = %s, not %s", what, showAll(got), showAll(records))
		}
	}
}

// holds looks at a tape.
func holds(t *testing.T, what string, p *tape.Tape, b []byte, synced int) {
	t.Helper()
	if got := p.Bytes(); !bytes.Equal(got, b) {
		t.Errorf("%s: on the tape is %s, not %s", what, show(got), show(b))
	}
	if got := p.Synced(); got != synced {
		t.Errorf("%s: %d were synced, not %d", what, got, synced)
	}
}

// opens opens a tape again, twice, and looks at what is there each time: P6.4.
func opens(t *testing.T, what string, p *tape.Tape, records [][]byte) *Log {
	t.Helper()
	on := laid(records...)
	first := open(t, p)
	has(t, what+", opened", first, records)
	holds(t, what+", opened", p, on, len(on))
	second := open(t, p)
	has(t, what+", opened twice", second, records)
	holds(t, what+", opened twice", p, on, len(on))
	has(t, what+", the one that was opened first", first, records)
	if first == second {
		t.Errorf("%s: two logs are one", what)
	}
	return second
}

// P6.1, R3: no tape is told, with no log.
func TestOpenNoTape(t *testing.T) {
	for range 2 {
		if l, err := Open(nil); l != nil || err != api.ErrArg {
			t.Errorf("Open(nil) = %v, %v", l, err)
		}
	}
}

// P6.1, P6.4: a tape without bytes has no records, and stays as it is.
func TestOpenEmpty(t *testing.T) {
	p := tape.New()
	has(t, "a new tape", open(t, p), nil)
	holds(t, "a new tape", p, nil, 0)
	opens(t, "a new tape", p, nil)
	// Bytes that are gone are none.
	p = tapeOf(t, laid(texts("ab", "c")...), 3)
	must(t, p.Cut(0))
	opens(t, "an emptied tape", p, nil)
	p = tapeOf(t, laid(texts("ab")...), 0)
	p.Crash(0)
	opens(t, "a tape that lost all", p, nil)
}

// P6.1, P6.4: whole records are all told, in their order, and none is cut off, whatever was synced.
func TestOpenWhole(t *testing.T) {
	for _, records := range [][][]byte{
		texts("a"),
		texts("\x00"),
		texts("\x80"),
		texts("\xff"),
		texts("a", "b"),
		texts("b", "a"),
		texts("a", "a", "a"),
		texts("ab", "c", "def"),
		texts("\x00", "\x00\x00", "\x00"),
		// Bytes that would be records, or none, by themselves.
		texts("\x01a"),
		texts("\x01a\x01b", "\x05a"),
		texts("\x80\x00", "\x80", "\x81"),
		{mixed(127)},
		{mixed(128)},
		{mixed(127), mixed(128), mixed(127)},
		{mixed(1<<14 - 1)},
		{mixed(1 << 14)},
		{mixed(1<<14 - 1), mixed(1), mixed(1 << 14)},
		{mixed(most - 1)},
		{mixed(most)},
		{mixed(1), mixed(most), mixed(1), mixed(most)},
	} {
		b := laid(records...)
		for _, synced := range []int{0, 1, len(b) / 2, len(b) - 1, len(b)} {
			p := tapeOf(t, b, synced)
			opens(t, showAll(records), p, records)
		}
	}
}

// P6.1: as many records as a tape has room for.
func TestOpenFullTape(t *testing.T) {
	records := slices.Repeat(texts("x", "y"), 1<<18)
	p := tapeOf(t, laid(records...), 0)
	if got := open(t, p).Records(); !same(got, records) {
		t.Errorf("of %d records %d are told", len(records), len(got))
	}
	if len(p.Bytes()) != 1<<20 {
		t.Errorf("%d bytes are left", len(p.Bytes()))
	}
	// The greatest ones: fifteen of them, and what is too short for one more.
	records = slices.Repeat([][]byte{mixed(most)}, 15)
	b := laid(records...)
	rest := laid(mixed(most))[:1<<20-len(b)]
	opens(t, "great records", tapeOf(t, slices.Concat(b, rest), len(b)), records)
}

// P6.1: the number may have each size from 1 to MaxRecord, and is read to its end.
func TestOpenEachSize(t *testing.T) {
	sizes := []int{most}
	for n := 1; n < most; n += 1 + n/50 {
		sizes = append(sizes, n)
	}
	for k := range 17 {
		sizes = append(sizes, max(1<<k-1, 1), 1<<k, min(1<<k+1, most))
	}
	for _, n := range sizes {
		records := [][]byte{mixed(n), {7}}
		opens(t, strconv.Itoa(n), tapeOf(t, laid(records...), 0), records)
	}
}

// P6.1, P6.4: a record that isn't whole is cut off, wherever the tape ends in it.
func TestOpenCutShort(t *testing.T) {
	for _, ahead := range [][][]byte{nil, texts("a"), texts("abc", "\x00"), {mixed(300)}} {
		for _, last := range [][]byte{
			[]byte("a"), []byte("ab"), []byte("abc"), []byte("\x01z"), []byte("\x00\x00\x00"),
			mixed(127), mixed(128), mixed(300), mixed(1 << 14), mixed(most),
		} {
			front, all := laid(ahead...), laid(slices.Concat(ahead, [][]byte{last})...)
			head := len(header(len(last)))
			ends := []int{0, 1, head - 1, head, head + 1, head + len(last)/2, head + len(last) - 2, head + len(last) - 1}
			for _, end := range ends {
				b := all[:len(front)+min(max(end, 0), head+len(last)-1)]
				for _, synced := range []int{0, len(front), len(b)} {
					what := show(last) + " behind " + showAll(ahead) + ", " + strconv.Itoa(len(b)-len(front)) + " left"
					opens(t, what, tapeOf(t, b, synced), ahead)
				}
			}
			opens(t, show(last)+", whole", tapeOf(t, all, 0), slices.Concat(ahead, [][]byte{last}))
		}
	}
}

// bad are bytes that no record begins with, however many follow.
func bad() []string {
	return []string{
		// No bytes at all.
		"\x00",
		// More than MaxRecord.
		"\x81\x80\x04",
		"\x80\x81\x04",
		"\xff\xff\x7f",
		"\x80\x80\x80\x01",
		"\x81\x80\x80\x80\x10",                     // 2^32 + 1
		"\x80\x80\x84\x80\x80\x01",                 // its lowest bits are MaxRecord
		"\xff\xff\xff\xff\xff\xff\xff\xff\x7f",     // 2^63 - 1
		"\x81\x80\x80\x80\x80\x80\x80\x80\x80\x01", // 2^63 + 1
		"\xff\xff\xff\xff\xff\xff\xff\xff\xff\x01", // 2^64 - 1
		// What layer 1 doesn't read: not in as few bytes as can be, too large, too long.
		"\x80\x00",
		"\x81\x00",
		"\x81\x80\x00",
		"\x82\x80\x80\x80\x00",
		"\x81\x80\x80\x80\x80\x80\x80\x80\x80\x00",
		"\x81\x80\x80\x80\x80\x80\x80\x80\x80\x02",
		"\xff\xff\xff\xff\xff\xff\xff\xff\xff\x7f",
		"\x81\x80\x80\x80\x80\x80\x80\x80\x80\x80\x00",
		"\x81\x80\x80\x80\x80\x80\x80\x80\x80\x81\x00",
		"\x81\x80\x80\x80\x80\x80\x80\x80\x80\x80\x01",
		strings.Repeat("\x80", 100),
		strings.Repeat("\xff", 100),
	}
}

// P6.1, P6.4: what is no record ends them: it and all behind it is cut off, whole records too.
func TestOpenNoRecord(t *testing.T) {
	for _, s := range bad() {
		for _, ahead := range [][][]byte{nil, texts("a"), texts("abc", "d"), {mixed(most)}} {
			for _, behind := range [][]byte{
				nil,
				{1},
				[]byte("zzz"),
				laid(texts("e")...),
				laid(texts("e", "fg")...),
				laid(mixed(most)),
				mixed(1 << 17),
				bytes.Repeat([]byte{1}, 1<<17),
			} {
				front := laid(ahead...)
				b := slices.Concat(front, []byte(s), behind)
				what := strconv.Quote(s) + " between " + showAll(ahead) + " and " + show(behind)
				for _, synced := range []int{0, len(front), len(b)} {
					opens(t, what, tapeOf(t, b, synced), ahead)
				}
			}
		}
	}
}

// P6.1, P6.4: behind what was cut off records are appended as ever.
func TestAppendBehindACut(t *testing.T) {
	for _, rest := range append(bad(), "", "\x01", "\x05abc", "\x80", "\xff\xff", "\x80\x80\x04abc") {
		p := tapeOf(t, slices.Concat(laid(texts("ab")...), []byte(rest)), 2)
		l := open(t, p)
		must(t, l.Append([]byte("c")))
		has(t, "appended", l, texts("ab", "c"))
		holds(t, "appended", p, []byte("\x02ab\x01c"), 5)
		l = opens(t, "appended behind "+strconv.Quote(rest), p, texts("ab", "c"))
		must(t, l.Append([]byte("de")))
		opens(t, "and once more", p, texts("ab", "c", "de"))
	}
}

// reader reads records as the chapter says, by a table of all numbers from 1 to MaxRecord.
type reader map[string]int

func newReader() reader {
	r := reader{}
	for n := 1; n <= most; n++ {
		r[string(header(n))] = n
	}
	return r
}

func (r reader) read(b []byte) [][]byte {
	for digits := 1; digits <= min(3, len(b)); digits++ {
		n, ok := r[string(b[:digits])]
		if ok && len(b) >= digits+n {
			return append([][]byte{b[digits : digits+n]}, r.read(b[digits+n:])...)
		}
	}
	return nil
}

// P6.1, P6.4: all tapes of up to six bytes of chosen ones are opened to what the chapter's words come to.
func TestOpenAllSmallTapes(t *testing.T) {
	r := newReader()
	alphabet := []byte{0, 1, 2, 3, 4, 0x80, 0x81, 0xff}
	b := make([]byte, 0, 6)
	var on func()
	on = func() {
		if t.Failed() {
			return
		}
		want := r.read(b)
		p := tape.New()
		must(t, p.Append(b))
		l := open(t, p)
		if got := l.Records(); !same(got, want) {
			t.Errorf("of %v are told %s, not %s", b, showAll(got), showAll(want))
		}
		if left := p.Bytes(); !bytes.Equal(left, laid(want...)) || p.Synced() != len(left) {
			t.Errorf("of %v is left %v, %d of them synced", b, left, p.Synced())
		}
		if len(b) == cap(b) {
			return
		}
		for _, x := range alphabet {
			b = append(b, x)
			on()
			b = b[:len(b)-1]
		}
	}
	on()
}

// P6.1, P6.4: a row of records with one byte changed, at each place and to each of some values.
func TestOpenOneByteChanged(t *testing.T) {
	r := newReader()
	good := laid([]byte("abc"), mixed(130), []byte{1}, []byte("\x02de"), mixed(129))
	for i := range good {
		for _, x := range []byte{0, 1, 2, 0x7f, 0x80, 0x81, 0xff} {
			b := slices.Clone(good)
			b[i] = x
			opens(t, "byte "+strconv.Itoa(i)+" changed", tapeOf(t, b, i), r.read(b))
		}
	}
	for n := range good {
		opens(t, strconv.Itoa(n)+" bytes", tapeOf(t, good[:n], n/2), r.read(good[:n]))
	}
}

// P6.2: the chapter's example, and others.
func TestAppend(t *testing.T) {
	for _, c := range []struct {
		records [][]byte
		want    string
	}{
		{texts("\x07"), "\x01\x07"},
		{texts("\x00"), "\x01\x00"},
		{texts("\x01"), "\x01\x01"},
		{texts("\xff"), "\x01\xff"},
		{texts("a", "b"), "\x01a\x01b"},
		{texts("b", "a", "b"), "\x01b\x01a\x01b"},
		{texts("abc", "d", "ef"), "\x03abc\x01d\x02ef"},
		{texts("\x01a"), "\x02\x01a"},
		{texts("a", "\x00\x00", "\x80\x00"), "\x01a\x02\x00\x00\x02\x80\x00"},
	} {
		l, p := newLog(t, c.records...)
		has(t, strconv.Quote(c.want), l, c.records)
		holds(t, strconv.Quote(c.want), p, []byte(c.want), len(c.want))
		opens(t, strconv.Quote(c.want), p, c.records)
	}
}

// P6.2: behind each Append the record stands behind all, and is synced.
func TestAppendOneByOne(t *testing.T) {
	l, p := newLog(t)
	var records [][]byte
	for _, n := range []int{1, 2, 127, 128, 1, 129, 1<<14 - 1, 1 << 14, 3, most - 1, most, 1} {
		b := mixed(n)
		must(t, l.Append(b))
		records = append(records, b)
		on := laid(records...)
		has(t, strconv.Itoa(n)+" bytes appended", l, records)
		holds(t, strconv.Itoa(n)+" bytes appended", p, on, len(on))
		p.Crash(0)
		holds(t, "a crash behind it", p, on, len(on))
		has(t, "a crash behind it", l, records)
	}
	l = opens(t, "all of them", p, records)
	must(t, l.Append([]byte("z")))
	opens(t, "and one more", p, append(records, []byte("z")))
}

// P6.2: each byte is taken as it is.
func TestAppendEachByte(t *testing.T) {
	l, p := newLog(t)
	var records [][]byte
	for x := range 256 {
		must(t, l.Append([]byte{byte(x)}))
		records = append(records, []byte{byte(x)})
	}
	has(t, "each byte", l, records)
	opens(t, "each byte", p, records)
}

// keeps are numbers to keep of a record that takes so many bytes on the tape.
func keeps(size int) []int {
	list := []int{math.MinInt, math.MinInt + 1, -1 << 32, -1<<32 + 1, -size - 1, -size, -2, -1}
	if size < 200 {
		for n := range size {
			list = append(list, n)
		}
	} else {
		list = append(list, 0, 1, 2, 3, 4, size/2, size-2, size-1)
	}
	return append(list, size, size+1, size+2, 1<<20, 1<<31, 1<<32, 1<<32+1, math.MaxInt-1, math.MaxInt)
}

// P6.2, P6.4: of a torn record the first n bytes are kept; this log tells none of it, the next one all or nothing.
func TestTorn(t *testing.T) {
	for _, ahead := range [][][]byte{nil, texts("a"), texts("abc", "\x00", "d"), {mixed(200), mixed(most)}} {
		for _, last := range [][]byte{
			[]byte("\x07"), []byte("de"), []byte("\x01f"), []byte("\x00\x00\x00"),
			mixed(127), mixed(128), mixed(1 << 14), mixed(most),
		} {
			front, record := laid(ahead...), laid(last)
			for _, n := range keeps(len(record)) {
				what := "Torn(" + show(last) + ", " + strconv.Itoa(n) + ") behind " + showAll(ahead)
				l, p := newLog(t, ahead...)
				must(t, l.Torn(last, n))
				has(t, what, l, ahead)
				on := slices.Concat(front, record[:min(max(n, 0), len(record))])
				holds(t, what, p, on, len(on))
				after := ahead
				if n >= len(record) {
					after = append(slices.Clone(ahead), last)
				}
				next := opens(t, what, p, after)
				has(t, what+", the torn one", l, ahead)
				// The next log isn't torn.
				must(t, next.Append([]byte("z")))
				opens(t, what+", one more", p, append(slices.Clone(after), []byte("z")))
				has(t, what+", the torn one", l, ahead)
			}
		}
	}
}

// P6.2, R1: on a torn log ErrState is told, whatever else is wrong, and nothing is done.
func TestTornLog(t *testing.T) {
	for _, n := range []int{-1, 0, 1, 2, 3, math.MaxInt} {
		l, p := newLog(t, []byte("abc"))
		must(t, l.Torn([]byte("de"), n))
		on := p.Bytes()
		for _, b := range [][]byte{nil, {}, {7}, []byte("de"), mixed(most), mixed(most + 1)} {
			for _, k := range []int{math.MinInt, -1, 0, 1, len(b), math.MaxInt} {
				if err := l.Torn(b, k); err != api.ErrState {
					t.Errorf("Torn(%s, %d) of a torn log: %v", show(b), k, err)
				}
			}
			if err := l.Append(b); err != api.ErrState {
				t.Errorf("Append(%s) to a torn log: %v", show(b), err)
			}
			has(t, "behind ErrState", l, texts("abc"))
			holds(t, "behind ErrState", p, on, len(on))
		}
		want := texts("abc")
		if n >= 3 {
			want = texts("abc", "de")
		}
		opens(t, "behind ErrState", p, want)
		// The tape being opened anew doesn't mend the log that is torn.
		if err := l.Append([]byte("f")); err != api.ErrState {
			t.Errorf("Append to a torn log, its tape opened anew: %v", err)
		}
		if err := l.Torn([]byte("f"), 9); err != api.ErrState {
			t.Errorf("Torn of a torn log, its tape opened anew: %v", err)
		}
		opens(t, "behind ErrState", p, want)
	}
}

// P6.2, R1: on a torn log whose tape is full it is ErrState, too.
func TestTornLogFullTape(t *testing.T) {
	records := fill(0)
	last := records[len(records)-1]
	l, p := newLog(t, records[:len(records)-1]...)
	must(t, l.Torn(last, math.MaxInt))
	for _, b := range [][]byte{nil, {7}, mixed(most), mixed(most + 1)} {
		if err := l.Append(b); err != api.ErrState {
			t.Errorf("Append(%s): %v", show(b), err)
		}
		if err := l.Torn(b, 1); err != api.ErrState {
			t.Errorf("Torn(%s): %v", show(b), err)
		}
	}
	has(t, "the torn log", l, records[:len(records)-1])
	opens(t, "a full tape", p, records)
}

// P6.2: of none and of more than MaxRecord bytes ErrArg itself is told, and nothing is done.
func TestWrongSizes(t *testing.T) {
	for _, ahead := range [][][]byte{nil, texts("a"), texts("abc", "d")} {
		for _, b := range [][]byte{nil, {}, make([]byte, 0, 9), mixed(most + 1), mixed(most + 2), mixed(1 << 17), make([]byte, 1<<20), make([]byte, 1<<20+1), make([]byte, 1<<24+1)} {
			l, p := newLog(t, ahead...)
			on := laid(ahead...)
			what := show(b) + " behind " + showAll(ahead)
			for range 2 {
				if err := l.Append(b); err != api.ErrArg {
					t.Errorf("Append(%s): %v", what, err)
				}
				has(t, what, l, ahead)
				holds(t, what, p, on, len(on))
				for _, n := range []int{math.MinInt, -1, 0, 1, len(b), math.MaxInt} {
					if err := l.Torn(b, n); err != api.ErrArg {
						t.Errorf("Torn(%s, %d): %v", what, n, err)
					}
					has(t, what, l, ahead)
					holds(t, what, p, on, len(on))
				}
			}
			// The log isn't torn by it.
			must(t, l.Append([]byte("z")))
			has(t, what+", one more", l, append(slices.Clone(ahead), []byte("z")))
			opens(t, what+", one more", p, append(slices.Clone(ahead), []byte("z")))
		}
	}
}

// fill are records that leave just so many bytes (at most 100000) of a tape.
func fill(room int) [][]byte {
	records := slices.Repeat([][]byte{mixed(most)}, 14)
	left := 1<<20 - room - len(laid(records...))
	for left > 12000 {
		records = append(records, mixed(9997))
		left -= 9999
	}
	// What is left takes one whose number has two digits.
	return append(records, mixed(left-2))
}

// P6.2, P6.4: what has just room is taken, and what has one byte less isn't: then nothing is done.
func TestFull(t *testing.T) {
	for _, n := range []int{1, 2, 126, 127, 128, 129, 1<<14 - 1, 1 << 14, most - 1, most} {
		b := mixed(n)
		size := len(laid(b))
		fits := fill(size)
		if len(laid(fits...)) != 1<<20-size {
			t.Fatalf("%d bytes are left, not %d", 1<<20-len(laid(fits...)), size)
		}
		what := strconv.Itoa(n) + " bytes"
		all := append(slices.Clone(fits), b)

		l, p := newLog(t, fits...)
		must(t, l.Append(b))
		has(t, what, l, all)
		holds(t, what, p, laid(all...), 1<<20)
		opens(t, what, p, all)

		l, p = newLog(t, fits...)
		must(t, l.Torn(b, size))
		has(t, what+" torn", l, fits)
		opens(t, what+" torn", p, all)

		l, p = newLog(t, fits...)
		must(t, l.Torn(b, size-1))
		holds(t, what+" torn", p, laid(all...)[:1<<20-1], 1<<20-1)
		next := opens(t, what+" torn", p, fits)
		must(t, next.Append(b))
		opens(t, what+" appended again", p, all)

		short := fill(size - 1)
		l, p = newLog(t, short...)
		tooMuch(t, what, l, p, b, short)
	}
}

// tooMuch hands in what doesn't fit, and looks at what the log and its tape are behind it.
func tooMuch(t *testing.T, what string, l *Log, p *tape.Tape, b []byte, records [][]byte) {
	t.Helper()
	on := laid(records...)
	for range 2 {
		if err := l.Append(b); err != api.ErrFull {
			t.Errorf("Append of %s, that don't fit: %v", what, err)
		}
		has(t, what+" too many", l, records)
		holds(t, what+" too many", p, on, len(on))
		for _, n := range []int{-1, 0, 1, len(b), math.MaxInt} {
			if err := l.Torn(b, n); err != api.ErrFull {
				t.Errorf("Torn of %s, that don't fit: %v", what, err)
			}
			has(t, what+" too many", l, records)
			holds(t, what+" too many", p, on, len(on))
		}
	}
	if room := 1<<20 - len(on); room >= 2 {
		// The log isn't torn: what does fit is taken.
		must(t, l.Append([]byte{9}))
		opens(t, what+" too many, then one", p, append(slices.Clone(records), []byte{9}))
		return
	}
	opens(t, what+" too many", p, records)
}

// P6.2, R1: on a full tape the sizes are looked at first.
func TestFullAndWrong(t *testing.T) {
	records := fill(0)
	l, p := newLog(t, records...)
	holds(t, "a full tape", p, laid(records...), 1<<20)
	for _, b := range [][]byte{nil, {}, mixed(most + 1), make([]byte, 1<<20+1)} {
		if err := l.Append(b); err != api.ErrArg {
			t.Errorf("Append(%s): %v", show(b), err)
		}
		if err := l.Torn(b, 3); err != api.ErrArg {
			t.Errorf("Torn(%s): %v", show(b), err)
		}
	}
	for _, n := range []int{1, 2, 127, 128, most - 1, most} {
		tooMuch(t, strconv.Itoa(n)+" bytes", l, p, mixed(n), records)
	}
	// What another cuts off makes room.
	must(t, p.Cut(1<<20-len(laid(records[len(records)-1]))))
	l = open(t, p)
	must(t, l.Append([]byte("a")))
	opens(t, "room again", p, append(slices.Clone(records[:len(records)-1]), []byte("a")))
}

// P6.2: a record's number takes room, too: it or its bytes alone aren't laid.
func TestFullByTheNumber(t *testing.T) {
	for _, c := range []struct{ room, n int }{{1, 1}, {2, 2}, {127, 127}, {128, 128}, {129, 128}, {0, 1}, {1, most}, {50000, most}} {
		records := fill(c.room)
		l, p := newLog(t, records...)
		tooMuch(t, strconv.Itoa(c.n)+" bytes", l, p, mixed(c.n), records)
	}
}

// share tells whether two lists have memory in common, behind their ends too.
func share(a, b []byte) bool {
	a, b = a[:cap(a)], b[:cap(b)]
	if len(a) == 0 || len(b) == 0 {
		return false
	}
	from, to := uintptr(unsafe.Pointer(&a[0])), uintptr(unsafe.Pointer(&b[0]))
	return from < to+uintptr(len(b)) && to < from+uintptr(len(a))
}

// P6.3: what is handed in stays as it is, behind its end too, and isn't kept.
func TestHandedIn(t *testing.T) {
	for _, n := range []int{1, 2, 8, 33, 128, 1000, most} {
		for _, torn := range []bool{false, true} {
			backing := mixed(n + 32)
			ahead := slices.Clone(backing)
			b := backing[16 : 16+n]
			want := slices.Clone(b)
			l, p := newLog(t, []byte("ab"))
			records := texts("ab")
			if torn {
				must(t, l.Torn(b, math.MaxInt))
			} else {
				must(t, l.Append(b))
				records = append(records, want)
			}
			if !bytes.Equal(backing, ahead) {
				t.Errorf("%d bytes handed in were changed", n)
			}
			for i := range backing {
				backing[i] ^= 0x55
			}
			ahead = slices.Clone(backing)
			has(t, "what was handed in, changed", l, records)
			for _, r := range l.Records() {
				if share(r, backing) {
					t.Errorf("%d bytes handed in are told again", n)
				}
			}
			opens(t, "what was handed in, changed", p, [][]byte{[]byte("ab"), want})
			if !torn {
				must(t, l.Append([]byte("cd")))
			}
			if !bytes.Equal(backing, ahead) {
				t.Errorf("%d bytes handed in were changed later", n)
			}
		}
	}
}

// P6.3: what isn't taken is neither changed nor kept.
func TestHandedInWrong(t *testing.T) {
	full := fill(10)
	for _, c := range []struct {
		records [][]byte
		b       []byte
		torn    bool
		err     error
	}{
		{texts("ab"), mixed(most + 1), false, api.ErrArg},
		{full, mixed(10), false, api.ErrFull},
		{texts("ab"), mixed(5), true, api.ErrState},
	} {
		l, p := newLog(t, c.records...)
		if c.torn {
			must(t, l.Torn([]byte("z"), 0))
		}
		ahead := slices.Clone(c.b)
		for _, err := range []error{l.Append(c.b), l.Torn(c.b, 4)} {
			if err != c.err {
				t.Errorf("%v, not %v", err, c.err)
			}
		}
		if !bytes.Equal(c.b, ahead) {
			t.Errorf("%s handed in were changed", show(c.b))
		}
		clear(c.b)
		has(t, "behind an error", l, c.records)
		opens(t, "behind an error", p, c.records)
	}
}

// P6.3: one list handed in twice, and to two logs, is each time a copy.
func TestHandedInTwice(t *testing.T) {
	l, p := newLog(t)
	m, q := newLog(t)
	b := []byte("ab")
	must(t, l.Append(b))
	must(t, m.Append(b))
	b[0] = 'x'
	must(t, l.Append(b))
	b[1] = 'y'
	must(t, m.Torn(b, 9))
	b[0] = 'z'
	has(t, "one log", l, texts("ab", "xb"))
	has(t, "the other log", m, texts("ab"))
	opens(t, "one tape", p, texts("ab", "xb"))
	opens(t, "the other tape", q, texts("ab", "xy"))
}

// P6.3: what is told is new memory, each time, and no two records of it share any.
func TestTold(t *testing.T) {
	for _, records := range [][][]byte{
		texts("a"),
		texts("a", "b", "c"),
		texts("abc", "\x00", "defghijk"),
		{mixed(100), mixed(8), mixed(1000)},
		{mixed(most), mixed(most)},
	} {
		b := laid(records...)
		for _, opened := range []bool{false, true} {
			l, p := newLog(t, records...)
			if opened {
				l = open(t, p)
			}
			first, second := l.Records(), l.Records()
			parts := slices.Concat(first, second, l.records)
			for i, r := range parts {
				for _, s := range parts[:i] {
					if share(r, s) {
						t.Errorf("of %s memory is shared", showAll(records))
					}
				}
			}
			for _, r := range first {
				for i := range r {
					r[i] ^= 0xff
				}
			}
			has(t, "records changed", l, records)
			for i := range first {
				first[i] = append(first[i], "xyz"...)
				clear(first[i][:cap(first[i])])
			}
			has(t, "records appended to", l, records)
			for i := range first {
				first[i] = nil
			}
			first = append(first[:0], []byte("y"), []byte("z"))
			_ = append(first, first...)
			has(t, "the list of records changed", l, records)
			holds(t, "all of these", p, b, len(b))
			// What the log does later doesn't reach what was told.
			must(t, l.Append([]byte("more")))
			must(t, l.Torn([]byte("yet more"), 3))
			opens(t, "later", p, append(slices.Clone(records), []byte("more")))
			if !same(second, records) {
				t.Errorf("what was told is %s, not %s", showAll(second), showAll(records))
			}
		}
	}
}

// P6.3: what was told ahead of an Append has no room that the Append fills.
func TestToldAheadOfAppend(t *testing.T) {
	l, p := newLog(t)
	var told [][][]byte
	var records [][]byte
	for i := range 40 {
		told = append(told, append(l.Records(), []byte("mine")))
		records = append(records, []byte{byte(i)})
		must(t, l.Append(records[i]))
	}
	for i, list := range told {
		if !same(list, append(slices.Clone(records[:i]), []byte("mine"))) {
			t.Errorf("what was told of %d is %s", i, showAll(list))
		}
	}
	has(t, "all", l, records)
	opens(t, "all", p, records)
}

// P6.3: a log's own records, told, may be handed in to it.
func TestToldHandedIn(t *testing.T) {
	l, p := newLog(t, []byte("ab"))
	for range 3 {
		b := l.Records()[0]
		must(t, l.Append(b))
		b[0] = 'x'
	}
	must(t, l.Append(p.Bytes()))
	want := append(texts("ab", "ab", "ab", "ab"), []byte("\x02ab\x02ab\x02ab\x02ab"))
	has(t, "doubled", l, want)
	opens(t, "doubled", p, want)
}

// P6.3: the tape is kept: what is appended stands on the one that was handed in, and on no other.
func TestTapeKept(t *testing.T) {
	p, q := tape.New(), tape.New()
	l, m := open(t, p), open(t, q)
	must(t, l.Append([]byte("a")))
	must(t, m.Append([]byte("bc")))
	must(t, l.Append([]byte("d")))
	must(t, m.Torn([]byte("ef"), 1))
	has(t, "one log", l, texts("a", "d"))
	has(t, "the other log", m, texts("bc"))
	holds(t, "one tape", p, []byte("\x01a\x01d"), 4)
	holds(t, "the other tape", q, []byte("\x02bc\x02"), 4)
	must(t, l.Append([]byte("g")))
	opens(t, "one tape", p, texts("a", "d", "g"))
	opens(t, "the other tape", q, texts("bc"))
}

// P6.4: records that were found on a tape, though not synced, outlive the crash of a torn one.
func TestOpenSyncs(t *testing.T) {
	for synced := range 6 {
		for n, want := range []string{"", "\x02", "\x02x", "\x02xy"} {
			p := tapeOf(t, []byte("\x01a\x02bc"), synced)
			l := open(t, p)
			must(t, l.Torn([]byte("xy"), n))
			holds(t, "torn", p, []byte("\x01a\x02bc"+want), 5+len(want))
			has(t, "torn", l, texts("a", "bc"))
		}
		p := tapeOf(t, []byte("\x01a\x02bc"), synced)
		open(t, p)
		p.Crash(0)
		opens(t, "crashed behind being opened", p, texts("a", "bc"))
	}
}

// model is the chapter's log, written another way: of the tape it knows the records and how much is behind them.
type model struct {
	kept    [][]byte // all whole records on the tape
	told    [][]byte // the log's
	behind  []byte
	torn    bool
	counter byte
}

func (m *model) check(n int) error {
	switch {
	case m.torn:
		return api.ErrState
	case n == 0 || n > most:
		return api.ErrArg
	}
	return nil
}

// step is a call: of Append and Torn the bytes hang on how many there were, so that no two are alike.
type step struct {
	kind string
	size int
	keep int
}

func allSteps() []step {
	return []step{
		{"append", 0, 0}, {"append", 1, 0}, {"append", 2, 0}, {"append", 130, 0}, {"append", most + 1, 0},
		{"torn", 0, 1}, {"torn", 2, -1}, {"torn", 2, 0}, {"torn", 2, 1}, {"torn", 2, 2}, {"torn", 2, 3}, {"torn", 2, 9},
		{"torn", 130, 1}, {"torn", 130, 2}, {"torn", 130, 131}, {"torn", 130, 132},
		{"open", 0, 0},
	}
}

func (m *model) bytes(n int) []byte {
	m.counter++
	return bytes.Repeat([]byte{m.counter}, n)
}

// do does a step on both, and tells whether they tell the same error.
func (m *model) do(t *testing.T, l **Log, p *tape.Tape, a step) bool {
	b := m.bytes(a.size)
	want := m.check(a.size)
	switch a.kind {
	case "append":
		if want == nil {
			m.kept = append(slices.Clone(m.kept), b)
			m.told = m.kept
		}
		return (*l).Append(b) == want
	case "torn":
		if want == nil {
			m.torn = true
			if record := laid(b); a.keep >= len(record) {
				m.kept = append(slices.Clone(m.kept), b)
			} else {
				m.behind = record[:max(a.keep, 0)]
			}
		}
		return (*l).Torn(b, a.keep) == want
	}
	*l = open(t, p)
	m.told, m.behind, m.torn = m.kept, nil, false
	return true
}

// P6.1, P6.2, P6.4: all rows of four calls, of seventeen chosen ones, come to what the chapter's words come to.
func TestAllCallsInAllOrders(t *testing.T) {
	steps := make([]step, 0, 4)
	row := func() {
		l, p := newLog(t)
		m := new(model)
		for place, a := range steps {
			if !m.do(t, &l, p, a) {
				t.Errorf("%v: another error at %d", steps, place)
			}
			if got := l.Records(); !same(got, m.told) {
				t.Errorf("%v: Records() = %s behind %d, not %s", steps, showAll(got), place, showAll(m.told))
			}
			on := slices.Concat(laid(m.kept...), m.behind)
			if got := p.Bytes(); !bytes.Equal(got, on) || p.Synced() != len(on) {
				t.Errorf("%v: on the tape is %v behind %d, %d synced, not %v", steps, got, place, p.Synced(), on)
			}
		}
		opens(t, "behind all", p, m.kept)
	}
	var on func()
	on = func() {
		if t.Failed() {
			return
		}
		if len(steps) == cap(steps) {
			row()
			return
		}
		for _, a := range allSteps() {
			steps = append(steps, a)
			on()
			steps = steps[:len(steps)-1]
		}
	}
	on()
}

// P6.4: through a long row of torn records and openings nothing that was appended is lost.
func TestAppendedBearsCrashes(t *testing.T) {
	l, p := newLog(t)
	var records [][]byte
	for i := range 600 {
		b := mixed(1 + i*7%200)
		if i%3 != 0 {
			must(t, l.Append(b))
			records = append(records, b)
			continue
		}
		keep := i%len(laid(b)) + i%2*500
		must(t, l.Torn(b, keep))
		if keep >= len(laid(b)) {
			records = append(records, b)
		}
		l = open(t, p)
		if i%2 == 0 {
			l = open(t, p)
		}
		if got := l.Records(); !same(got, records) {
			t.Fatalf("at %d: %s, not %s", i, showAll(got), showAll(records))
		}
	}
	opens(t, "all of them", p, records)
	if len(records) < 450 || len(records) > 590 {
		t.Errorf("the row left %d records", len(records))
	}
}

// P1: no tape and no number makes a call panic.
func TestAllTapesAndNumbers(t *testing.T) {
	r := newReader()
	for x := range 256 {
		for _, n := range []int{1, 2, 3, 9, 10, 11, 12, 100, 1<<20 - 1, 1 << 20} {
			if x != 0 && x != 1 && x != 0x7f && x != 0x80 && x != 0xff && n > 100 {
				continue
			}
			b := bytes.Repeat([]byte{byte(x)}, n)
			p := tapeOf(t, b, n/2)
			l := open(t, p)
			if n <= 100 {
				has(t, show(b), l, r.read(b))
			}
			_ = l.Append(nil)
			_ = l.Torn(nil, math.MinInt)
			_ = l.Append(b)
			_ = l.Torn([]byte{byte(x)}, math.MinInt+x)
			_ = l.Torn([]byte{byte(x)}, math.MaxInt-x)
			_ = l.Append([]byte{byte(x)})
			if len(p.Bytes()) != p.Synced() {
				t.Errorf("%s: not all was synced", show(b))
			}
		}
	}
}
