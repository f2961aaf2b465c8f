package wire

import (
	"bytes"
	"encoding/binary"
	"math"
	"strings"
	"testing"

	"becket/api"
)

// fill is n bytes of the same value.
func fill(n int, x byte) []byte { return bytes.Repeat([]byte{x}, n) }

// cat is all pieces, one behind the other.
func cat(pieces ...[]byte) []byte { return bytes.Join(pieces, nil) }

type numBytes struct {
	n    uint64
	want []byte
}

// numbers are numbers at the edges of how many bytes they take, written by hand.
func numbers() []numBytes {
	return []numBytes{
		{0, []byte{0}},
		{1, []byte{1}},
		{127, []byte{0x7f}},
		{128, []byte{0x80, 1}},
		{300, []byte{0xac, 2}},
		{4096, []byte{0x80, 0x20}},
		{1<<14 - 1, []byte{0xff, 0x7f}},
		{1 << 14, []byte{0x80, 0x80, 1}},
		{1<<63 - 1, cat(fill(8, 0xff), []byte{0x7f})},
		{1 << 63, cat(fill(9, 0x80), []byte{1})},
		{math.MaxUint64, cat(fill(9, 0xff), []byte{1})},
	}
}

type textBytes struct {
	s    string
	want []byte
}

// texts are texts of no bytes, of MaxText bytes, of more, and of no characters.
func texts() []textBytes {
	long := func(n int, size ...byte) textBytes {
		s := strings.Repeat("x", n)
		return textBytes{s, cat(size, []byte(s))}
	}
	return []textBytes{
		{"", []byte{0}},
		{"a", []byte{1, 'a'}},
		{"hé", []byte{3, 'h', 0xc3, 0xa9}},
		{"\x00\xff\x80", []byte{3, 0, 0xff, 0x80}},
		long(127, 0x7f),
		long(128, 0x80, 1),
		long(api.MaxText, 0x80, 0x20),
		long(api.MaxText+1, 0x81, 0x20),
		long(1<<16, 0x80, 0x80, 4),
	}
}

// fronts are what may stand ahead of what is written.
func fronts() [][]byte {
	return [][]byte{nil, {}, {9}, {0x80}, fill(300, 0xff)}
}

// P1.1: b, and the number's bytes behind it.
func TestNumStandsBehind(t *testing.T) {
	for _, c := range numbers() {
		for _, front := range fronts() {
			if got := Num(front, c.n); !bytes.Equal(got, cat(front, c.want)) {
				t.Errorf("Num(%x, %d) = %x", front, c.n, got)
			}
		}
	}
}

// P1.1: b, and the text's bytes behind it.
func TestTextStandsBehind(t *testing.T) {
	for _, c := range texts() {
		for _, front := range fronts() {
			if got := Text(front, c.s); !bytes.Equal(got, cat(front, c.want)) {
				t.Errorf("Text(%x, %d bytes) = %x", front, len(c.s), got)
			}
		}
	}
}

// P1.2: the number, and the place behind it.
func TestGetNum(t *testing.T) {
	for _, c := range numbers() {
		for _, front := range fronts() {
			b := cat(front, c.want)
			for _, most := range []uint64{c.n, math.MaxUint64} {
				n, next, err := GetNum(b, len(front), most)
				if n != c.n || next != len(b) || err != nil {
					t.Errorf("GetNum(%x, %d, %d) = %d, %d, %v", b, len(front), most, n, next, err)
				}
			}
		}
	}
}

type numFault struct {
	name string
	b    []byte
	at   int
	most uint64
	want error
}

func numFaults() []numFault {
	const all = math.MaxUint64
	two := []byte{7, 0xac, 2}
	return []numFault{
		{"ahead of b", two, -1, all, api.ErrArg},
		{"far ahead of b", two, math.MinInt, all, api.ErrArg},
		{"behind b", two, 4, all, api.ErrArg},
		{"far behind b", two, math.MaxInt, all, api.ErrArg},
		{"behind none", nil, 1, all, api.ErrArg},
		{"at the end", two, 3, all, api.ErrForm},
		{"at the end of none", nil, 0, all, api.ErrForm},
		{"cut off", two[:2], 1, all, api.ErrForm},
		{"cut off behind nine", fill(9, 0x80), 0, all, api.ErrForm},
		{"zero in two bytes", []byte{0x80, 0}, 0, all, api.ErrForm},
		{"one in two bytes", []byte{0x81, 0}, 0, all, api.ErrForm},
		{"300 in three bytes", []byte{0xac, 0x82, 0}, 0, all, api.ErrForm},
		{"63 bits in ten bytes", cat(fill(9, 0xff), []byte{0}), 0, all, api.ErrForm},
		{"65 bits", cat(fill(9, 0xff), []byte{2}), 0, all, api.ErrForm},
		{"70 bits", cat(fill(9, 0x80), []byte{0x7f}), 0, all, api.ErrForm},
		{"eleven bytes", cat(fill(10, 0x80), []byte{1}), 0, all, api.ErrForm},
		{"eleven bytes, low ones", cat(fill(9, 0x80), []byte{0x81, 0}), 0, all, api.ErrForm},
		{"above 0", []byte{1}, 0, 0, api.ErrLarge},
		{"above most", two, 1, 299, api.ErrLarge},
		{"above most in ten bytes", cat(fill(9, 0xff), []byte{1}), 0, all - 1, api.ErrLarge},
		// R1: the error that is named first.
		{"cut off, and above most", []byte{0xff}, 0, 0, api.ErrForm},
		{"more bytes than needed, and above most", []byte{0x81, 0}, 0, 0, api.ErrForm},
		{"65 bits, and above most", cat(fill(9, 0xff), []byte{2}), 0, 0, api.ErrForm},
	}
}

// P1.2, R1, R3: each error itself, and nothing beside it.
func TestGetNumFaults(t *testing.T) {
	for _, c := range numFaults() {
		n, next, err := GetNum(c.b, c.at, c.most)
		if n != 0 || next != 0 || err != c.want {
			t.Errorf("%s: GetNum(%x, %d, %d) = %d, %d, %v; not %v", c.name, c.b, c.at, c.most, n, next, err, c.want)
		}
	}
}

// P1.2: the text, and the place behind it.
func TestGetText(t *testing.T) {
	for _, c := range texts() {
		if len(c.s) > api.MaxText {
			continue
		}
		for _, front := range fronts() {
			b := cat(front, c.want)
			for _, most := range []int{len(c.s), api.MaxText} {
				s, next, err := GetText(b, len(front), most)
				if s != c.s || next != len(b) || err != nil {
					t.Errorf("GetText(%x, %d, %d) = %q, %d, %v", b, len(front), most, s, next, err)
				}
			}
		}
	}
}

type textFault struct {
	name     string
	b        []byte
	at, most int
	want     error
}

func textFaults() []textFault {
	const all = api.MaxText
	ab := []byte{7, 2, 'a', 'b'}
	tooLong := cat([]byte{0x81, 0x20}, fill(all+1, 'x'))
	return []textFault{
		{"ahead of b", ab, -1, all, api.ErrArg},
		{"far ahead of b", ab, math.MinInt, all, api.ErrArg},
		{"behind b", ab, 5, all, api.ErrArg},
		{"far behind b", ab, math.MaxInt, all, api.ErrArg},
		{"behind none", nil, 1, all, api.ErrArg},
		{"most below 0", ab, 1, -1, api.ErrArg},
		{"most far below 0", ab, 1, math.MinInt, api.ErrArg},
		{"most above MaxText", ab, 1, all + 1, api.ErrArg},
		{"most far above MaxText", ab, 1, math.MaxInt, api.ErrArg},
		{"at the end", ab, 4, all, api.ErrForm},
		{"at the end of none", nil, 0, all, api.ErrForm},
		{"size cut off", []byte{0x82}, 0, all, api.ErrForm},
		{"size in more bytes than it needs", []byte{0x81, 0, 'a'}, 0, all, api.ErrForm},
		{"size beyond 64 bits", cat(fill(9, 0xff), []byte{2}), 0, all, api.ErrForm},
		{"more than most", ab, 1, 1, api.ErrLarge},
		{"more than 0", ab, 1, 0, api.ErrLarge},
		{"more than MaxText", tooLong, 0, all, api.ErrLarge},
		{"one byte short", ab[:3], 1, 2, api.ErrForm},
		{"no byte of its bytes", ab[:2], 1, 2, api.ErrForm},
		{"MaxText, one byte short", cat([]byte{0x80, 0x20}, fill(all-1, 'x')), 0, all, api.ErrForm},
		// R1: the error that is named first.
		{"most wrong, and no number", []byte{0x80}, 0, -1, api.ErrArg},
		{"most wrong, and at the end", nil, 0, all + 1, api.ErrArg},
		{"most wrong, and too few bytes", []byte{9}, 0, all + 1, api.ErrArg},
		{"more bytes than needed, and more than most", []byte{0x82, 0}, 0, 0, api.ErrForm},
		{"more than most, and too few bytes", ab[:2], 1, 1, api.ErrLarge},
		{"64 bits, and too few bytes", cat(fill(9, 0xff), []byte{1}), 0, all, api.ErrLarge},
	}
}

// P1.2, R1, R3: each error itself, and nothing beside it.
func TestGetTextFaults(t *testing.T) {
	for _, c := range textFaults() {
		s, next, err := GetText(c.b, c.at, c.most)
		if s != "" || next != 0 || err != c.want {
			t.Errorf("%s: GetText(%.9x, %d, %d) = %q, %d, %v; not %v", c.name, c.b, c.at, c.most, s, next, err, c.want)
		}
	}
}

// writers are both calls that write, with what they write.
func writers() []func(b []byte) []byte {
	return []func(b []byte) []byte{
		func(b []byte) []byte { return Num(b, 300) },
		func(b []byte) []byte { return Num(b, 0) },
		func(b []byte) []byte { return Text(b, "text") },
		func(b []byte) []byte { return Text(b, "") },
	}
}

// P1.3: b stays as it is, what it has behind its end, too.
func TestWritingLeavesMemoryAsItIs(t *testing.T) {
	for i, write := range writers() {
		for _, size := range []int{0, 3, 64} {
			whole := fill(64, 5)
			write(whole[:size])
			if !bytes.Equal(whole, fill(64, 5)) {
				t.Errorf("writer %d behind %d bytes left %x", i, size, whole)
			}
		}
	}
}

// P1.3: what is told is new memory: no change of b, or of another answer, reaches it.
func TestWrittenIsNewMemory(t *testing.T) {
	for i, write := range writers() {
		whole := fill(64, 5)
		one, two := write(whole[:3]), write(whole[:3])
		want := bytes.Clone(one)
		for j := range whole {
			whole[j] = 6
		}
		for j := range two {
			two[j] = 7
		}
		if !bytes.Equal(one, want) {
			t.Errorf("writer %d: %x became %x", i, want, one)
		}
		for j := range one {
			one[j] = 8
		}
		if !bytes.Equal(whole, fill(64, 6)) {
			t.Errorf("writer %d: its answer reaches b: %x", i, whole)
		}
	}
}

// P1.3: reading changes nothing, and a text that was read is new memory.
func TestReadIsNewMemory(t *testing.T) {
	whole := cat(Text(Num(nil, 300), "text"), fill(9, 5))
	b, kept := whole[:7], bytes.Clone(whole)
	if n, _, err := GetNum(b, 0, 300); n != 300 || err != nil {
		t.Error(n, err)
	}
	s, _, err := GetText(b, 2, 4)
	if err != nil {
		t.Error(err)
	}
	if !bytes.Equal(whole, kept) {
		t.Errorf("reading left %x of %x", whole, kept)
	}
	for i := range whole {
		whole[i] = 'x'
	}
	if s != "text" {
		t.Errorf("the text became %q", s)
	}
}

// P1.2: what b has behind its end isn't read.
func TestReadingEndsWithB(t *testing.T) {
	num := []byte{0xac, 2}
	if _, _, err := GetNum(num[:1], 0, 300); err != api.ErrForm {
		t.Error(err)
	}
	text := []byte{2, 'a', 'b'}
	if _, _, err := GetText(text[:2], 0, 2); err != api.ErrForm {
		t.Error(err)
	}
}

// tails are what may stand behind what is read: numbers, and none.
func tails() [][]byte {
	return [][]byte{nil, {0}, {1}, {0x80}, {0xff, 1}, fill(12, 0xff)}
}

// P1.4: what was written is read as it was, whatever is behind it.
func TestWrittenIsRead(t *testing.T) {
	for shift := range 64 {
		for _, n := range []uint64{1<<shift - 1, 1 << shift, 1<<shift + 1, math.MaxUint64 >> shift} {
			for _, tail := range tails() {
				b := Num([]byte{3}, n)
				end := len(b)
				got, next, err := GetNum(cat(b, tail), 1, n)
				if got != n || next != end || err != nil {
					t.Errorf("%d with %x behind it: %d, %d, %v", n, tail, got, next, err)
				}
			}
		}
	}
	for size := range api.MaxText + 1 {
		s := strings.Repeat("\xfe", size)
		b := Text([]byte{3}, s)
		got, next, err := GetText(Num(b, 1<<63), 1, size)
		if got != s || next != len(b) || err != nil {
			t.Errorf("%d bytes: %d, %d, %v", size, len(got), next, err)
		}
	}
}

// P1.4: a number more behind what is written changes nothing of it.
func TestNumberMoreBehind(t *testing.T) {
	var b []byte
	for _, c := range numbers() {
		b = Text(Num(b, c.n), strings.Repeat("y", int(c.n%200)))
	}
	at := 0
	for _, c := range numbers() {
		n, next, err := GetNum(b, at, math.MaxUint64)
		if n != c.n || err != nil {
			t.Fatalf("at %d: %d, %v; not %d", at, n, err, c.n)
		}
		s, after, err := GetText(b, next, api.MaxText)
		if s != strings.Repeat("y", int(c.n%200)) || err != nil {
			t.Fatalf("at %d: %q, %v", next, s, err)
		}
		at = after
	}
	if at != len(b) {
		t.Errorf("%d of %d bytes were read", at, len(b))
	}
}

// numAsToldElsewhere reads a number as the library's own reader does, and
// refuses what its writer would write otherwise.
func numAsToldElsewhere(b []byte) (uint64, int, bool) {
	n, size := binary.Uvarint(b)
	if size <= 0 || !bytes.Equal(binary.AppendUvarint(nil, n), b[:size]) {
		return 0, 0, false
	}
	return n, size, true
}

// P1.2, P1.4: of all short bytes, and of those of nine to eleven with edges at
// the end, a number is read if, and only if, it is written as these bytes.
func TestReadIsWritten(t *testing.T) {
	edges := []byte{0, 1, 2, 3, 0x7f, 0x80, 0x81, 0x82, 0xfe, 0xff}
	for _, front := range [][]byte{nil, {0x80}, {0xff}, fill(6, 0x80), fill(7, 0xff), fill(8, 0xff), fill(9, 0x80), fill(9, 0xff)} {
		for x := range 256 {
			holdAgainstElsewhere(t, cat(front, []byte{byte(x)}))
			for y := range 256 {
				holdAgainstElsewhere(t, cat(front, []byte{byte(x), byte(y)}))
			}
			for _, z := range edges {
				holdAgainstElsewhere(t, cat(front, []byte{byte(x), 0x80, z}))
			}
		}
	}
}

func holdAgainstElsewhere(t *testing.T, b []byte) {
	t.Helper()
	want, size, ok := numAsToldElsewhere(b)
	n, next, err := GetNum(b, 0, math.MaxUint64)
	if !ok {
		if n != 0 || next != 0 || err != api.ErrForm {
			t.Fatalf("GetNum(%x) = %d, %d, %v", b, n, next, err)
		}
		return
	}
	if n != want || next != size || err != nil {
		t.Fatalf("GetNum(%x) = %d, %d, %v; not %d, %d", b, n, next, err, want, size)
	}
	if again := Num(nil, n); !bytes.Equal(again, b[:next]) {
		t.Fatalf("%x was read, %x is written", b[:next], again)
	}
}

// P1.4: a text that was read is written as the bytes that it was read from.
func TestReadTextIsWritten(t *testing.T) {
	for x := range 256 {
		for y := range 256 {
			for size := range 4 {
				b := cat([]byte{byte(x), byte(y)}, fill(size, 'z'))
				s, next, err := GetText(b, 0, api.MaxText)
				if err == nil && !bytes.Equal(Text(nil, s), b[:next]) {
					t.Fatalf("%x was read, %x is written", b[:next], Text(nil, s))
				}
			}
		}
	}
}

// P1: no call panics, at whatever place and with whatever most.
func TestAllArguments(t *testing.T) {
	places := []int{math.MinInt, -2, -1, 0, 1, 2, 3, 9, 10, 11, 12, math.MaxInt - 1, math.MaxInt}
	mosts := []int{math.MinInt, -1, 0, 1, api.MaxText, api.MaxText + 1, math.MaxInt}
	for _, b := range [][]byte{nil, {}, {0}, {0x80}, {2, 'a'}, fill(9, 0xff), fill(10, 0xff), fill(11, 0x80)} {
		for _, at := range places {
			for _, most := range mosts {
				_, next, err := GetNum(b, at, uint64(most))
				checkPlace(t, b, at, next, err)
				_, next, err = GetText(b, at, most)
				checkPlace(t, b, at, next, err)
			}
		}
	}
}

// checkPlace: a place that is told is behind at, and in b or at its end.
func checkPlace(t *testing.T, b []byte, at, next int, err error) {
	t.Helper()
	if err == nil && (next <= at || next > len(b)) {
		t.Errorf("at %d of %x: %d", at, b, next)
	}
	if (at < 0 || at > len(b)) && err != api.ErrArg {
		t.Errorf("at %d of %x: %v", at, b, err)
	}
}
