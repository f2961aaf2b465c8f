package chunk

import (
	"math"
	"slices"
	"strings"
	"testing"
	"unsafe"

	"becket/api"
)

// P3.1: Min 1 to Max, Max at most MaxChunk, Mask 0 to 255.
func TestMay(t *testing.T) {
	for _, c := range []struct {
		cut  api.Cut
		want bool
	}{
		{api.Cut{Min: 1, Max: 1, Mask: 0}, true},
		{api.Cut{Min: 1, Max: 64, Mask: 255}, true},
		{api.Cut{Min: 64, Max: 64, Mask: 1}, true},
		{api.Cut{Min: 2, Max: 9, Mask: 63}, true},
		{api.Cut{Min: 8, Max: 8, Mask: 254}, true},
		{api.Cut{Min: 7, Max: 8, Mask: 0}, true},
		// Each of the three at fault alone.
		{api.Cut{Min: 0, Max: 8, Mask: 1}, false},
		{api.Cut{Min: -1, Max: 8, Mask: 1}, false},
		{api.Cut{Min: 9, Max: 8, Mask: 1}, false},
		{api.Cut{Min: 1, Max: 65, Mask: 1}, false},
		{api.Cut{Min: 64, Max: 65, Mask: 1}, false},
		{api.Cut{Min: 65, Max: 65, Mask: 1}, false},
		{api.Cut{Min: 65, Max: 64, Mask: 1}, false},
		{api.Cut{Min: 1, Max: 8, Mask: -1}, false},
		{api.Cut{Min: 1, Max: 8, Mask: 256}, false},
		{api.Cut{Min: 1, Max: 8, Mask: 511}, false},
		{api.Cut{}, false},
		{api.Cut{Min: 0, Max: 0, Mask: 1}, false},
		{api.Cut{Min: 1, Max: 0, Mask: 1}, false},
		{api.Cut{Min: -2, Max: -1, Mask: 1}, false},
		{api.Cut{Min: math.MinInt, Max: 8, Mask: 1}, false},
		{api.Cut{Min: math.MaxInt, Max: 8, Mask: 1}, false},
		{api.Cut{Min: 1, Max: math.MaxInt, Mask: 1}, false},
		{api.Cut{Min: 1, Max: math.MinInt, Mask: 1}, false},
		{api.Cut{Min: 1, Max: 8, Mask: math.MaxInt}, false},
		{api.Cut{Min: 1, Max: 8, Mask: math.MinInt}, false},
		{api.Cut{Min: math.MaxInt, Max: math.MaxInt, Mask: math.MaxInt}, false},
		// What would be right, if only its lowest bits were looked at.
		{api.Cut{Min: 1<<16 + 1, Max: 8, Mask: 1}, false},
		{api.Cut{Min: 1, Max: 1<<16 + 8, Mask: 1}, false},
		{api.Cut{Min: 1, Max: 8, Mask: 1 << 16}, false},
	} {
		if got := May(c.cut); got != c.want {
			t.Errorf("May(%+v) = %v", c.cut, got)
		}
	}
}

// P3.1: of all cuts near the edges those may be that the document names, and Split takes those alone.
func TestAllCutsNearTheEdges(t *testing.T) {
	for least := -2; least <= 67; least++ {
		for most := -2; most <= 67; most++ {
			for _, mask := range []int{-256, -255, -1, 0, 1, 254, 255, 256, 257} {
				c := api.Cut{Min: least, Max: most, Mask: mask}
				want := least >= 1 && most >= least && most < 65 && mask > -1 && mask < 256
				if got := May(c); got != want {
					t.Errorf("May(%+v) = %v", c, got)
				}
				l, err := Split("a", c)
				if want && (err != nil || !slices.Equal(l, []string{"a"})) {
					t.Errorf("Split(a, %+v) = %q, %v", c, l, err)
				}
				if !want && (err != api.ErrArg || len(l) != 0) {
					t.Errorf("Split(a, %+v) = %q, %v", c, l, err)
				}
			}
		}
	}
}

type cutCase struct {
	s    string
	c    api.Cut
	want []string
}

// sizes are all bytes of one kind, in chunks of these sizes.
func sizes(char string, l ...int) []string {
	var chunks []string
	for _, n := range l {
		chunks = append(chunks, strings.Repeat(char, n))
	}
	return chunks
}

// bySize are texts whose chunks hang on how many bytes they have: where Mask is 255, no bytes of theirs end one.
func bySize() []cutCase {
	return []cutCase{
		{"abcde", api.Cut{Min: 2, Max: 2, Mask: 255}, []string{"ab", "cd", "e"}},
		{"abcd", api.Cut{Min: 2, Max: 2, Mask: 255}, []string{"ab", "cd"}},
		{"aaaaaaa", api.Cut{Min: 2, Max: 4, Mask: 255}, []string{"aaaa", "aaa"}},
		{"aaaaaaaa", api.Cut{Min: 2, Max: 4, Mask: 255}, []string{"aaaa", "aaaa"}},
		// A last chunk shorter than Min.
		{"aaaaa", api.Cut{Min: 2, Max: 4, Mask: 255}, []string{"aaaa", "a"}},
		{"a", api.Cut{Min: 64, Max: 64, Mask: 0}, []string{"a"}},
		{"aaaa", api.Cut{Min: 3, Max: 9, Mask: 0}, []string{"aaa", "a"}},
		// Mask 0: all bytes have none of its bits.
		{"abc", api.Cut{Min: 1, Max: 4, Mask: 0}, []string{"a", "b", "c"}},
		{"abcdefg", api.Cut{Min: 3, Max: 4, Mask: 0}, []string{"abc", "def", "g"}},
		{"abc", api.Cut{Min: 1, Max: 1, Mask: 255}, []string{"a", "b", "c"}},
		// As many as a chunk may have, and one around.
		{strings.Repeat("x", 63), api.Cut{Min: 64, Max: 64, Mask: 255}, sizes("x", 63)},
		{strings.Repeat("x", 64), api.Cut{Min: 64, Max: 64, Mask: 255}, sizes("x", 64)},
		{strings.Repeat("x", 65), api.Cut{Min: 64, Max: 64, Mask: 0}, sizes("x", 64, 1)},
		{strings.Repeat("x", 130), api.Cut{Min: 1, Max: 64, Mask: 255}, sizes("x", 64, 64, 2)},
		// Bytes that are one character, and are cut apart.
		{"é", api.Cut{Min: 1, Max: 1, Mask: 255}, []string{"\xc3", "\xa9"}},
		{"日本", api.Cut{Min: 4, Max: 4, Mask: 255}, []string{"\xe6\x97\xa5\xe6", "\x9c\xac"}},
		// Bytes that are no UTF-8, the byte 0, and what range tells for both.
		{"\x00\x00\x00", api.Cut{Min: 2, Max: 2, Mask: 255}, []string{"\x00\x00", "\x00"}},
		{"\x80\xfe\xc3a\xed\xa0\x80", api.Cut{Min: 3, Max: 3, Mask: 255}, []string{"\x80\xfe\xc3", "a\xed\xa0", "\x80"}},
		{"\ufffd", api.Cut{Min: 2, Max: 2, Mask: 255}, []string{"\xef\xbf", "\xbd"}},
	}
}

// byBytes are texts whose chunks hang on what their bytes are, reckoned by hand.
func byBytes() []cutCase {
	return []cutCase{
		// 31 times 1 and 32 is 63.
		{"\x01\x20\x00", api.Cut{Min: 2, Max: 9, Mask: 63}, []string{"\x01\x20", "\x00"}},
		// The other way round it is 993, 3e1 in hexadecimal.
		{"\x20\x01\x00", api.Cut{Min: 2, Max: 9, Mask: 63}, []string{"\x20\x01\x00"}},
		{"\x20\x01\x00", api.Cut{Min: 2, Max: 9, Mask: 0xe1}, []string{"\x20\x01", "\x00"}},
		// 31 times 1 and 1 is 32: they are added, their bits aren't laid together.
		{"\x01\x01\x00", api.Cut{Min: 2, Max: 9, Mask: 32}, []string{"\x01\x01", "\x00"}},
		{"\x01\x01\x01", api.Cut{Min: 2, Max: 9, Mask: 31}, []string{"\x01\x01\x01"}},
		// 31 times 255 and 255 is 8160, 1fe0: bits above Mask's may be there.
		{"\xff\xff\x00", api.Cut{Min: 2, Max: 9, Mask: 0xe0}, []string{"\xff\xff", "\x00"}},
		{"\xff\xff\x00", api.Cut{Min: 2, Max: 9, Mask: 0xf0}, []string{"\xff\xff\x00"}},
		// All of Mask's bits, not some of them; others may be there.
		{"\x01\x02\x03", api.Cut{Min: 1, Max: 9, Mask: 1}, []string{"\x01", "\x02\x03"}},
		{"\x02\x00\x03", api.Cut{Min: 1, Max: 9, Mask: 3}, []string{"\x02\x00\x03"}},
		{"\x07\x07", api.Cut{Min: 1, Max: 9, Mask: 3}, []string{"\x07", "\x07"}},
		// Mask 255, 254 and 1 of the first byte of a chunk, ahead of which stands 0.
		{"\xff\xff", api.Cut{Min: 1, Max: 9, Mask: 255}, []string{"\xff", "\xff"}},
		{"\xfe\xfe", api.Cut{Min: 1, Max: 9, Mask: 255}, []string{"\xfe\xfe"}},
		{"\xfe\xfe", api.Cut{Min: 1, Max: 9, Mask: 254}, []string{"\xfe", "\xfe"}},
		{"\xfd\xfd", api.Cut{Min: 1, Max: 9, Mask: 254}, []string{"\xfd\xfd"}},
		// At fewer than Min bytes none ends, whatever they are; at Min it may.
		{"\xff\xff\xff", api.Cut{Min: 2, Max: 3, Mask: 255}, []string{"\xff\xff\xff"}},
		{"\xff\x01\xe0", api.Cut{Min: 2, Max: 3, Mask: 255}, []string{"\xff\x01\xe0"}},
		{"\x01\xe0\x01", api.Cut{Min: 2, Max: 3, Mask: 255}, []string{"\x01\xe0", "\x01"}},
		{"\x00\x01\xe0\x01", api.Cut{Min: 2, Max: 4, Mask: 255}, []string{"\x00\x01\xe0", "\x01"}},
		// The byte ahead of the one at Min counts, though no chunk may end behind it.
		{"\x01\x00\x01\xe0\x01", api.Cut{Min: 4, Max: 9, Mask: 255}, []string{"\x01\x00\x01\xe0", "\x01"}},
		// A byte with which it has Max bytes ends it once.
		{"\x01\xe0\x01\xe0", api.Cut{Min: 1, Max: 2, Mask: 255}, []string{"\x01\xe0", "\x01\xe0"}},
	}
}

// P3.1: the chunks, in their order.
func TestSplit(t *testing.T) {
	for _, c := range append(bySize(), byBytes()...) {
		if got, err := Split(c.s, c.c); !slices.Equal(got, c.want) || err != nil {
			t.Errorf("Split(%q, %+v) = %q, %v, not %q", c.s, c.c, got, err, c.want)
		}
	}
}

// P3.1: the first byte of a chunk has 0 ahead of it, not the last byte of the chunk before.
func TestByteAheadIsOfTheChunk(t *testing.T) {
	for _, c := range []cutCase{
		// 31 times 1 and e0 is ff: it would end behind e0, if 1 stood ahead of it.
		{"\x00\x01\xe0\x00", api.Cut{Min: 1, Max: 2, Mask: 255}, []string{"\x00\x01", "\xe0\x00"}},
		{"\xff\x01\xe0\x02", api.Cut{Min: 1, Max: 2, Mask: 255}, []string{"\xff", "\x01\xe0", "\x02"}},
		// 0 and ff is ff: it wouldn't end behind ff, if 1 stood ahead of it.
		{"\x00\x01\xff\x00", api.Cut{Min: 1, Max: 2, Mask: 255}, []string{"\x00\x01", "\xff", "\x00"}},
		// The same behind a chunk that ended by its bytes.
		{"\xff\xff\xff", api.Cut{Min: 1, Max: 9, Mask: 255}, []string{"\xff", "\xff", "\xff"}},
		{"\x01\xe0\x5f\x00\x00", api.Cut{Min: 1, Max: 9, Mask: 255}, []string{"\x01\xe0", "\x5f\x00\x00"}},
	} {
		if got, err := Split(c.s, c.c); !slices.Equal(got, c.want) || err != nil {
			t.Errorf("Split(%q, %+v) = %q, %v, not %q", c.s, c.c, got, err, c.want)
		}
	}
}

// P3.1: no bytes are no chunks; one byte is one, whatever it is.
func TestNoByteAndOne(t *testing.T) {
	for _, c := range []api.Cut{{Min: 1, Max: 1}, {Min: 1, Max: 64, Mask: 255}, {Min: 64, Max: 64, Mask: 1}, {Min: 2, Max: 3, Mask: 0}} {
		if l, err := Split("", c); len(l) != 0 || err != nil {
			t.Errorf("Split of no bytes, %+v: %q, %v", c, l, err)
		}
		for x := range 256 {
			s := string([]byte{byte(x)})
			if l, err := Split(s, c); !slices.Equal(l, []string{s}) || err != nil {
				t.Errorf("Split(%q, %+v) = %q, %v", s, c, l, err)
			}
		}
	}
}

// P3.1: MaxFile bytes are cut; more are ErrLarge itself, and nothing beside it: R3.
func TestHowManyBytes(t *testing.T) {
	c := api.Cut{Min: 64, Max: 64, Mask: 255}
	for _, char := range []string{"a", "\x00", "\xff"} {
		if l, err := Split(strings.Repeat(char, 1024), c); err != nil || !slices.Equal(l, slices.Repeat(sizes(char, 64), 16)) {
			t.Errorf("1024 times %q: %q, %v", char, l, err)
		}
		if l, err := Split(strings.Repeat(char, 1023), c); err != nil || len(l) != 16 || l[15] != strings.Repeat(char, 63) {
			t.Errorf("1023 times %q: %q, %v", char, l, err)
		}
		if l, err := Split(strings.Repeat(char, 1024), api.Cut{Min: 1, Max: 1}); err != nil || !slices.Equal(l, slices.Repeat([]string{char}, 1024)) {
			t.Errorf("1024 times %q, one by one: %d chunks, %v", char, len(l), err)
		}
		for _, n := range []int{1025, 2048, 4096, 1 << 16, 1 << 20} {
			if l, err := Split(strings.Repeat(char, n), c); err != api.ErrLarge || len(l) != 0 {
				t.Errorf("%d times %q: %d chunks, %v", n, char, len(l), err)
			}
		}
	}
	// Bytes are counted, not characters.
	if l, err := Split(strings.Repeat("é", 512), c); err != nil || len(l) != 16 {
		t.Errorf("1024 bytes of é: %d chunks, %v", len(l), err)
	}
	if l, err := Split(strings.Repeat("é", 512)+"a", c); err != api.ErrLarge || len(l) != 0 {
		t.Errorf("1025 bytes of é: %d chunks, %v", len(l), err)
	}
}

// cutsThatMayNotBe have each one thing at fault, or several.
func cutsThatMayNotBe() []api.Cut {
	return []api.Cut{
		{}, {Min: 0, Max: 8, Mask: 1}, {Min: -1, Max: 8, Mask: 1}, {Min: 2, Max: 1}, {Min: 9, Max: 8, Mask: 255},
		{Min: 1, Max: 65, Mask: 1}, {Min: 65, Max: 65}, {Min: 1, Max: 8, Mask: -1}, {Min: 1, Max: 8, Mask: 256},
		{Min: 0, Max: 65, Mask: 256}, {Min: -9, Max: -9, Mask: -9},
		{Min: math.MinInt, Max: math.MaxInt, Mask: math.MaxInt}, {Min: math.MaxInt, Max: math.MinInt, Mask: math.MinInt},
		{Min: math.MaxInt, Max: math.MaxInt, Mask: 0}, {Min: 1, Max: math.MaxInt, Mask: 255},
	}
}

// P3.1, R1, R3, P1: ErrArg itself of a Cut that may not be, also if there are too many bytes.
func TestSplitByWhatMayNotBe(t *testing.T) {
	for _, c := range cutsThatMayNotBe() {
		for _, n := range []int{0, 1, 64, 1024, 1025, 1 << 20} {
			if l, err := Split(strings.Repeat("a", n), c); err != api.ErrArg || len(l) != 0 {
				t.Errorf("Split of %d bytes, %+v: %d chunks, %v", n, c, len(l), err)
			}
		}
	}
}

// P3.2: all of them, one behind the other.
func TestJoin(t *testing.T) {
	long := strings.Repeat("x", 5000)
	for _, c := range []struct {
		l    []string
		want string
	}{
		{nil, ""},
		{[]string{}, ""},
		{[]string{""}, ""},
		{[]string{"", "", ""}, ""},
		{[]string{"a"}, "a"},
		{[]string{"ab", "cd", "e"}, "abcde"},
		{[]string{"e", "cd", "ab"}, "ecdab"},
		{[]string{"", "a", "", "b", ""}, "ab"},
		{[]string{"a", "a", "a"}, "aaa"},
		{[]string{"\xc3", "\xa9"}, "é"},
		{[]string{"\xff", "\x00", "\xfe\x80"}, "\xff\x00\xfe\x80"},
		{[]string{"\x00"}, "\x00"},
		// More than a chunk, a file, or a text may have.
		{[]string{long}, long},
		{[]string{long, "y", long}, long + "y" + long},
		{slices.Repeat([]string{"ab"}, 3000), strings.Repeat("ab", 3000)},
	} {
		if got := Join(c.l); got != c.want {
			t.Errorf("Join(%.99q) = %.99q", c.l, got)
		}
	}
}

// share tells whether two texts have a byte of memory in common.
func share(a, b string) bool {
	if a == "" || b == "" {
		return false
	}
	x, y := uintptr(unsafe.Pointer(unsafe.StringData(a))), uintptr(unsafe.Pointer(unsafe.StringData(b)))
	return x < y+uintptr(len(b)) && y < x+uintptr(len(a))
}

// R2: what is told is new memory: chunks share none with what was cut, and what is joined none with its chunks.
func TestTextsAreNewMemory(t *testing.T) {
	for _, n := range []int{2, 3, 5, 64, 100, 1024} {
		for _, c := range []api.Cut{{Min: 2, Max: 2, Mask: 255}, {Min: 64, Max: 64}} {
			s := strings.Repeat("a", n)
			l, err := Split(s, c)
			if err != nil {
				t.Fatal(err)
			}
			whole := Join(l)
			for i, chunk := range l {
				if share(s, chunk) {
					t.Errorf("chunk %d of %d bytes is a piece of them", i, n)
				}
				if share(whole, chunk) {
					t.Errorf("what is joined has memory of chunk %d", i)
				}
			}
		}
	}
	lone := strings.Repeat("ab", 9)
	for _, l := range [][]string{{lone}, {"", lone}, {lone, ""}, {"", lone, ""}, {lone, lone}} {
		if share(Join(l), lone) {
			t.Errorf("Join(%q) has memory of a chunk", l)
		}
	}
}

// P3.3: the list that is joined stays as it is, what it has behind its end, too.
func TestJoinLeavesTheListAsItIs(t *testing.T) {
	whole := []string{"a", "", "bc", "\xff", "d", ""}
	kept := slices.Clone(whole)
	for n := range len(whole) + 1 {
		if got := Join(whole[:n]); got != strings.Join(kept[:n], "") {
			t.Errorf("Join(%q) = %q", kept[:n], got)
		}
		if !slices.Equal(whole, kept) {
			t.Fatalf("%d chunks joined: %q became %q", n, kept, whole)
		}
	}
}

// P3.3: bytes that are cut stay as they are, and so does a list that is joined, where its texts stand on bytes.
func TestBytesStayAsTheyAre(t *testing.T) {
	memory := []byte("\xff\x01\xe0 some bytes \x00\xc3")
	kept := slices.Clone(memory)
	s := unsafe.String(&memory[0], len(memory))
	l, err := Split(s[2:9], api.Cut{Min: 1, Max: 3, Mask: 255})
	whole := Join([]string{s[:4], s[4:8]})
	if err != nil || !slices.Equal(memory, kept) {
		t.Fatalf("%q became %q, %v", kept, memory, err)
	}
	// Nor is it kept: what was told stays, when the bytes change.
	toldChunks, toldWhole := strings.Join(l, "|"), strings.Clone(whole)
	clear(memory)
	if strings.Join(l, "|") != toldChunks || whole != toldWhole {
		t.Errorf("%q became %q, and %q %q", toldChunks, l, toldWhole, whole)
	}
}

// R2: a list of chunks is new memory: a change of it reaches no other answer.
func TestChunksAreNewMemory(t *testing.T) {
	c := api.Cut{Min: 1, Max: 2, Mask: 255}
	one, _ := Split("abcde", c)
	two, _ := Split("abcde", c)
	whole := Join(one)
	for i := range one {
		one[i] = "x"
	}
	if !slices.Equal(two, []string{"ab", "cd", "e"}) || whole != "abcde" {
		t.Errorf("a change of one answer made %q, %q of others", two, whole)
	}
	if again, err := Split("abcde", c); !slices.Equal(again, two) || err != nil {
		t.Errorf("a change of an answer was kept: %q, %v", again, err)
	}
}

// splitElsewhere is the chapter's rule, byte by byte and bit by bit.
func splitElsewhere(s string, c api.Cut) []string {
	var chunks []string
	var chunk []byte
	for _, this := range []byte(s) {
		chunk = append(chunk, this)
		sum := uint64(this)
		if len(chunk) >= 2 {
			sum += 31 * uint64(chunk[len(chunk)-2])
		}
		all := true
		for bit := range 8 {
			if c.Mask>>bit%2 == 1 && sum>>bit%2 == 0 {
				all = false
			}
		}
		if len(chunk) == c.Max || len(chunk) >= c.Min && all {
			chunks = append(chunks, string(chunk))
			chunk = nil
		}
	}
	if len(chunk) > 0 {
		chunks = append(chunks, string(chunk))
	}
	return chunks
}

// holdAgainstElsewhere: Split tells the same as the rule elsewhere, and what follows holds: P3.4.
func holdAgainstElsewhere(t *testing.T, s string, c api.Cut) []string {
	t.Helper()
	l, err := Split(s, c)
	if want := splitElsewhere(s, c); err != nil || !slices.Equal(l, want) {
		t.Fatalf("Split(%q, %+v) = %q, %v, not %q", s, c, l, err, want)
	}
	if got := Join(l); got != s {
		t.Fatalf("the chunks of %q, %+v joined: %q", s, c, got)
	}
	for i, chunk := range l {
		least := c.Min
		if i == len(l)-1 {
			least = 1
		}
		if len(chunk) < least || len(chunk) > c.Max {
			t.Fatalf("Split(%q, %+v): chunk %d has %d bytes", s, c, i, len(chunk))
		}
	}
	return l
}

// P3.1: every two bytes, one ahead of the other, by every Mask of one bit, and some of more.
func TestAllPairsOfBytes(t *testing.T) {
	masks := []int{0, 1, 2, 4, 8, 16, 32, 64, 128, 3, 63, 127, 254, 255}
	for x := range 256 {
		for y := range 256 {
			for _, mask := range masks {
				l, err := Split(string([]byte{byte(x), byte(y), 0}), api.Cut{Min: 2, Max: 3, Mask: mask})
				want := 1
				if (31*x+y)&mask == mask {
					want = 2
				}
				if len(l) != want || err != nil {
					t.Fatalf("%d and %d by %d: %q, %v", x, y, mask, l, err)
				}
			}
		}
	}
}

// P3.1, P3.4: all texts of up to six of these bytes, by all cuts of up to four bytes.
func TestAllShortTexts(t *testing.T) {
	texts := []string{""}
	last := texts
	for range 6 {
		var longer []string
		for _, s := range last {
			for _, char := range []string{"\x00", "\x01", "\xe0", "\xff"} {
				longer = append(longer, s+char)
			}
		}
		texts, last = append(texts, longer...), longer
	}
	for most := 1; most <= 4; most++ {
		for least := 1; least <= most; least++ {
			for _, mask := range []int{0, 1, 32, 254, 255} {
				for _, s := range texts {
					holdAgainstElsewhere(t, s, api.Cut{Min: least, Max: most, Mask: mask})
				}
			}
		}
	}
}

// mixed are n bytes that look like any, the same at every run.
func mixed(n int, seed uint32) string {
	b := make([]byte, n)
	for i := range b {
		seed = seed*1664525 + 1013904223
		b[i] = byte(seed >> 24)
	}
	return string(b)
}

// longTexts are files of all sizes that matter, of any bytes and of few.
func longTexts() []string {
	texts := []string{strings.Repeat("\x00", 1024), strings.Repeat("\xff", 1024), strings.Repeat("ab", 512), strings.Repeat("日本", 170)}
	for i, n := range []int{1, 2, 63, 64, 65, 127, 128, 129, 500, 1000, 1023, 1024} {
		texts = append(texts, mixed(n, uint32(i)))
	}
	return texts
}

// P3.1, P3.4: long texts, by every Mask and by cuts from the least to the greatest.
func TestLongTexts(t *testing.T) {
	for _, s := range longTexts() {
		for mask := range 256 {
			for _, c := range []api.Cut{{Min: 1, Max: 64}, {Min: 1, Max: 1}, {Min: 2, Max: 7}, {Min: 16, Max: 48}, {Min: 63, Max: 64}, {Min: 64, Max: 64}} {
				c.Mask = mask
				holdAgainstElsewhere(t, s, c)
			}
		}
	}
}

// P3.4: if Min is Max, all but the last have as many bytes, whatever Mask and bytes are.
func TestMinAsMax(t *testing.T) {
	for _, s := range longTexts() {
		for n := 1; n <= api.MaxChunk; n++ {
			for _, mask := range []int{0, 1, 128, 255} {
				l, err := Split(s, api.Cut{Min: n, Max: n, Mask: mask})
				var want []string
				for piece := range slices.Chunk([]byte(s), n) {
					want = append(want, string(piece))
				}
				if err != nil || !slices.Equal(l, want) {
					t.Fatalf("%q by %d, Mask %d: %q, %v", s, n, mask, l, err)
				}
			}
		}
	}
}

// P3.4: whatever stands behind, all chunks but the last stay.
func TestMoreBytesBehind(t *testing.T) {
	for _, c := range []api.Cut{{Min: 1, Max: 64, Mask: 15}, {Min: 1, Max: 64, Mask: 255}, {Min: 3, Max: 5, Mask: 1}, {Min: 8, Max: 32, Mask: 7}, {Min: 10, Max: 10}, {Min: 1, Max: 1}} {
		for seed := range uint32(4) {
			front := mixed(300, seed)
			for n := range len(front) + 1 {
				short := holdAgainstElsewhere(t, front[:n], c)
				stay := short[:max(len(short)-1, 0)]
				for _, behind := range []string{"\x00", "\xff", front, strings.Repeat("\x01\xe0", 100), mixed(1024-n, seed+9)} {
					long := holdAgainstElsewhere(t, front[:n]+behind, c)
					if len(long) < len(stay) || !slices.Equal(long[:len(stay)], stay) {
						t.Fatalf("%q, %+v: %q, and with %q behind %q", front[:n], c, short, behind, long)
					}
				}
			}
		}
	}
}

// P3.2: what is joined is what its two pieces are, joined; and lists that Split never told are joined, too.
func TestJoinOfPieces(t *testing.T) {
	l := []string{"", "a", "\xff\x00", "é", "", strings.Repeat("b", 100)}
	for n := range len(l) + 1 {
		if got := Join(l[:n]) + Join(l[n:]); got != Join(l) {
			t.Errorf("%q and %q joined: %q", l[:n], l[n:], got)
		}
	}
}
