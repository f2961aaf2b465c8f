package blobs

import (
	"math"
	"slices"
	"strconv"
	"strings"
	"testing"
	"unsafe"

	"becket/api"
)

const (
	longest = 64      // MaxChunk, written out
	most    = 1 << 16 // MaxQuota, written out
)

func must(t *testing.T, err error) {
	t.Helper()
	if err != nil {
		t.Fatal(err)
	}
}

// newStore is a store that these chunks were put in.
func newStore(t *testing.T, quota int, keys ...string) *Store {
	t.Helper()
	s, err := New(quota)
	if err != nil || s == nil {
		t.Fatalf("New(%d) = %v, %v", quota, s, err)
	}
	for _, k := range keys {
		must(t, s.Put(k))
	}
	return s
}

// chunkOf is a chunk of n bytes of all kinds, the i-th such one.
func chunkOf(i, n int) string {
	b := make([]byte, n)
	for j := range b {
		b[j] = byte(j*7 + n)
	}
	for j := 0; j < n && i > 0; j++ {
		b[j] += byte(i)
		i /= 256
	}
	return string(b)
}

// many are chunks of n bytes, all of them different, in no order.
func many(count, n int) []string {
	var keys []string
	for i := range count {
		keys = append(keys, chunkOf(i, n))
	}
	return keys
}

// show tells chunks, of many only some.
func show(keys []string) string {
	var list []string
	for _, k := range keys[:min(len(keys), 10)] {
		list = append(list, strconv.Quote(k[:min(len(k), 10)])+":"+strconv.Itoa(len(k)))
	}
	return strconv.Itoa(len(keys)) + " (" + strings.Join(list, " ") + ")"
}

// rising are the chunks once each, by their bytes.
func rising(keys []string) []string {
	return slices.Compact(slices.Sorted(slices.Values(keys)))
}

func bytesOf(keys []string) int {
	n := 0
	for _, k := range keys {
		n += len(k)
	}
	return n
}

// is looks at a store twice, at all that may be asked of it: looking changes nothing.
func is(t *testing.T, what string, s *Store, keys ...string) {
	t.Helper()
	want := rising(keys)
	for range 2 {
		if got := s.Keys(); !slices.Equal(got, want) {
			t.Errorf("%s: Keys() = %s, not %s", what, show(got), show(want))
		}
		if got := s.Size(); got != bytesOf(want) {
			t.Errorf("%s: Size() = %d, not %d", what, got, bytesOf(want))
		}
		for _, k := range want {
			if !s.Has(k) {
				t.Errorf("%s: Has(%q) = false", what, k)
			}
		}
	}
}

// room looks at how many bytes more a store takes; all of it is given back.
func room(t *testing.T, what string, s *Store, n int) {
	t.Helper()
	before := s.Keys()
	var fill []string
	for i := 0; bytesOf(fill) < n; i++ {
		k := chunkOf(i, min(longest, n-bytesOf(fill)))
		if !s.Has(k) {
			if err := s.Put(k); err != nil {
				t.Fatalf("%s: of %d bytes of room %d are there", what, n, bytesOf(fill))
			}
			fill = append(fill, k)
		}
	}
	for x := range 256 {
		if k := string([]byte{byte(x)}); !s.Has(k) {
			if err := s.Put(k); err != api.ErrFull {
				t.Errorf("%s: there is room for more than %d bytes: %v", what, n, err)
			}
			break
		}
	}
	for _, k := range fill {
		must(t, s.Drop(k))
	}
	is(t, what+", room taken and given back", s, before...)
}

// P7.1: the quotas that may be, and a new store, which has no chunks.
func TestNew(t *testing.T) {
	for _, quota := range []int{0, 1, 2, 3, 63, 64, 65, 255, 256, 1 << 15, 1<<16 - 1, 1 << 16} {
		s := newStore(t, quota)
		what := "New(" + strconv.Itoa(quota) + ")"
		is(t, what, s)
		for _, k := range []string{"", "a", "\x00", "ab", chunkOf(0, longest), chunkOf(0, longest+1)} {
			if s.Has(k) {
				t.Errorf("%s has %q", what, k)
			}
			if err := s.Drop(k); err != api.ErrNone {
				t.Errorf("%s: Drop(%q) = %v", what, k, err)
			}
		}
		for _, keys := range [][]string{nil, {}, {""}, {"a"}, {"a", "b", "a"}} {
			if n := s.Keep(keys); n != 0 {
				t.Errorf("%s: Keep(%q) = %d", what, keys, n)
			}
		}
		is(t, what+", asked", s)
		room(t, what, s, quota)
	}
}

// P7.1, R3: a quota that may not be is told, with no store.
func TestNewWrong(t *testing.T) {
	for _, quota := range []int{
		-1, -2, -64, -1 << 16, -1 << 31, -1<<32 + 1, -1 << 62, math.MinInt + 1, math.MinInt,
		1<<16 + 1, 1<<16 + 2, 1 << 17, 1 << 20, 1<<31 - 1, 1 << 31, 1 << 32, 1<<32 + 1, 1<<33 + 5, 1 << 62, math.MaxInt,
	} {
		for range 2 {
			if s, err := New(quota); s != nil || err != api.ErrArg {
				t.Errorf("New(%d) = %v, %v", quota, s, err)
			}
		}
	}
}

// P7.1: each store is one of its own.
func TestStoresApart(t *testing.T) {
	a, b := newStore(t, 4), newStore(t, 3)
	if a == b {
		t.Fatal("two stores are one")
	}
	must(t, a.Put("ab"))
	is(t, "the one", a, "ab")
	is(t, "the other", b)
	must(t, b.Put("ab"))
	must(t, b.Put("c"))
	is(t, "the one", a, "ab")
	is(t, "the other", b, "ab", "c")
	must(t, b.Drop("ab"))
	is(t, "the one", a, "ab")
	is(t, "the other", b, "c")
	if n := a.Keep(nil); n != 1 {
		t.Errorf("Keep(nil) = %d", n)
	}
	is(t, "the one", a)
	is(t, "the other", b, "c")
	room(t, "the one", a, 4)
	room(t, "the other", b, 2)
	is(t, "a third one", newStore(t, 4))
}

// P7.1: the chapter's example.
func TestExample(t *testing.T) {
	s := newStore(t, 3, "ab")
	if err := s.Put("cd"); err != api.ErrFull {
		t.Errorf("Put(cd) = %v", err)
	}
	is(t, "behind it", s, "ab")
}

// P7.1, P7.3: chunks of each size that may be.
func TestPutEachSize(t *testing.T) {
	s := newStore(t, most)
	var keys []string
	for n := 1; n <= longest; n++ {
		k := chunkOf(0, n)
		if s.Has(k) {
			t.Errorf("%q is there ahead of its Put", k)
		}
		must(t, s.Put(k))
		keys = append(keys, k)
		is(t, strconv.Itoa(n)+" bytes", s, keys...)
		is(t, strconv.Itoa(n)+" bytes alone", newStore(t, n, k), k)
	}
}

// P7.1, P7.3: bytes of all kinds, each taken as it is; Keys rise by bytes.
func TestPutEachByte(t *testing.T) {
	s := newStore(t, most)
	var ones, pairs []string
	for x := range 256 {
		ones = append(ones, string([]byte{byte(x)}))
		pairs = append(pairs, string([]byte{byte(x), 0}), string([]byte{byte(x), 0xff}), string([]byte{0x80, byte(x)}))
	}
	for _, k := range slices.Backward(ones) {
		must(t, s.Put(k))
	}
	is(t, "each byte", s, ones...)
	if !slices.Equal(s.Keys(), ones) || s.Size() != 256 {
		t.Errorf("each byte: %s, %d bytes", show(s.Keys()), s.Size())
	}
	for _, k := range pairs {
		must(t, s.Put(k))
	}
	is(t, "each byte, and pairs", s, slices.Concat(ones, pairs)...)
	for _, k := range ones {
		must(t, s.Drop(k))
	}
	is(t, "pairs", s, pairs...)
}

// P7.1: what isn't 1 to MaxChunk bytes is told, whatever room there is, and nothing is done.
func TestPutWrong(t *testing.T) {
	full := many(most/longest, longest)
	for _, c := range []struct {
		quota int
		keys  []string
	}{
		{0, nil},
		{1, nil},
		{1, []string{"a"}},
		{3, []string{"a"}},
		{longest, nil},
		{longest, []string{chunkOf(0, longest)}},
		{longest + 1, nil},
		{200, []string{"a", "b"}},
		{most, nil},
		{most, full},
	} {
		s := newStore(t, c.quota, c.keys...)
		for _, wrong := range []string{
			"",
			chunkOf(0, longest+1),
			strings.Repeat("a", longest+1),
			strings.Repeat("\x00", longest+1),
			strings.Repeat("é", 33), // 33 characters, 66 bytes
			chunkOf(0, longest) + "a",
			chunkOf(0, 128),
			chunkOf(0, 256),
			chunkOf(0, 257),
			chunkOf(0, most),
			chunkOf(0, most+1),
			strings.Repeat("a", 1<<20),
		} {
			for range 2 {
				if err := s.Put(wrong); err != api.ErrArg {
					t.Errorf("quota %d: Put of %d bytes = %v", c.quota, len(wrong), err)
				}
			}
			if s.Has(wrong) {
				t.Errorf("quota %d: %d bytes are there", c.quota, len(wrong))
			}
			if err := s.Drop(wrong); err != api.ErrNone {
				t.Errorf("quota %d: Drop of %d bytes = %v", c.quota, len(wrong), err)
			}
		}
		what := "behind ErrArg, quota " + strconv.Itoa(c.quota)
		is(t, what, s, c.keys...)
		room(t, what, s, c.quota-bytesOf(c.keys))
	}
	must(t, newStore(t, most).Put(strings.Repeat("é", 32)))
}

// P7.1: what is there is put again, in a store with room and in a full one, and nothing is done.
func TestPutAgain(t *testing.T) {
	for _, c := range []struct {
		quota int
		keys  []string
	}{
		{1, []string{"a"}},
		{2, []string{"a"}},
		{100, []string{"a"}},
		{3, []string{"ab", "c"}},
		{4, []string{"ab", "c"}},
		{100, []string{"ab", "c", "abc"}},
		{longest, []string{chunkOf(3, longest)}},
		{longest + 63, []string{chunkOf(3, longest)}},
		{most, many(most/longest, longest)},
		{most, many(most/longest-1, longest)},
	} {
		s := newStore(t, c.quota, c.keys...)
		for range 3 {
			for _, k := range c.keys {
				must(t, s.Put(k))
				must(t, s.Put(strings.Clone(k)))
			}
		}
		what := "put again, quota " + strconv.Itoa(c.quota)
		is(t, what, s, c.keys...)
		room(t, what, s, c.quota-bytesOf(c.keys))
		// Each is there once: dropped once, it is gone.
		must(t, s.Drop(c.keys[0]))
		is(t, what+", dropped once", s, c.keys[1:]...)
		room(t, what+", dropped once", s, c.quota-bytesOf(c.keys[1:]))
	}
}

// P7.1: what fills the store to its last byte is put, what lacks one byte of room isn't, and nothing is done.
func TestPutRoom(t *testing.T) {
	great := many(most/longest, longest)
	for _, c := range []struct {
		quota int
		keys  []string
		more  string
		want  error
	}{
		{0, nil, "a", api.ErrFull},
		{0, nil, chunkOf(0, longest), api.ErrFull},
		{1, nil, "a", nil},
		{1, nil, "ab", api.ErrFull},
		{1, []string{"a"}, "b", api.ErrFull},
		{2, nil, "ab", nil},
		{2, []string{"a"}, "b", nil},
		{2, []string{"a"}, "ab", api.ErrFull},
		{2, []string{"ab"}, "a", api.ErrFull},
		{2, []string{"ab"}, "b", api.ErrFull},
		{3, []string{"ab"}, "cd", api.ErrFull},
		{3, []string{"ab"}, "c", nil},
		{3, []string{"ab"}, "a", nil},
		{3, []string{"a", "b"}, "c", nil},
		{3, []string{"a", "b"}, "cd", api.ErrFull},
		{4, []string{"ab"}, "cd", nil},
		{4, []string{"ab"}, "cde", api.ErrFull},
		{4, []string{"ab"}, chunkOf(0, longest), api.ErrFull},
		{longest - 1, nil, chunkOf(0, longest), api.ErrFull},
		{longest, nil, chunkOf(0, longest), nil},
		{longest, []string{"a"}, chunkOf(0, longest), api.ErrFull},
		{longest, []string{"a"}, chunkOf(0, longest-1), nil},
		{2*longest - 1, []string{chunkOf(0, longest)}, chunkOf(1, longest), api.ErrFull},
		{2 * longest, []string{chunkOf(0, longest)}, chunkOf(1, longest), nil},
		{most, great[1:], great[0], nil},
		{most, great, "a", api.ErrFull},
		{most, great, chunkOf(0, longest-1), api.ErrFull},
		{most - 1, great[1:], great[0], api.ErrFull},
		{most - 1, great[1:], chunkOf(0, longest-1), nil},
		{most, append(great[1:], "a"), chunkOf(0, longest-1), nil},
		{most, append(great[1:], "a"), great[0], api.ErrFull},
	} {
		what := "quota " + strconv.Itoa(c.quota) + ", " + show(c.keys) + " and " + show([]string{c.more})
		s := newStore(t, c.quota, c.keys...)
		for range 2 {
			if err := s.Put(c.more); err != c.want {
				t.Errorf("%s: %v", what, err)
			}
		}
		after := slices.Clone(c.keys)
		if c.want == nil {
			after = append(after, c.more)
		} else if s.Has(c.more) {
			t.Errorf("%s: it is there", what)
		}
		is(t, what, s, after...)
		room(t, what, s, c.quota-bytesOf(after))
	}
}

// P7.1: behind one that found no room a smaller one is put, and one that is there.
func TestPutBehindErrFull(t *testing.T) {
	s := newStore(t, 5, "abc")
	if err := s.Put("def"); err != api.ErrFull {
		t.Errorf("Put(def) = %v", err)
	}
	must(t, s.Put("abc"))
	must(t, s.Put("d"))
	if err := s.Put("ef"); err != api.ErrFull {
		t.Errorf("Put(ef) = %v", err)
	}
	must(t, s.Put("f"))
	is(t, "full", s, "abc", "d", "f")
	for _, k := range []string{"g", "ab", "bc", "abcd", "dd", "D"} {
		if err := s.Put(k); err != api.ErrFull {
			t.Errorf("Put(%s) = %v", k, err)
		}
	}
	is(t, "full", s, "abc", "d", "f")
}

// P7.1, P7.2, P7.3: as many chunks as can be, of one byte and of two.
func TestManyChunks(t *testing.T) {
	var keys []string
	for x := range 256 {
		keys = append(keys, string([]byte{byte(x)}))
	}
	for i := range (most - 256) / 2 {
		keys = append(keys, string([]byte{byte(i), byte(i / 256)}))
	}
	s := newStore(t, most, keys...)
	is(t, "many", s, keys...)
	if s.Size() != most || len(s.Keys()) != 32896 {
		t.Errorf("%d chunks, %d bytes", len(s.Keys()), s.Size())
	}
	if err := s.Put("\xff\xff"); err != api.ErrFull {
		t.Errorf("one more: %v", err)
	}
	if n := s.Keep(s.Keys()); n != 0 {
		t.Errorf("Keep of all = %d", n)
	}
	is(t, "many, all kept", s, keys...)
	if n := s.Keep(keys[:1000]); n != 31896 {
		t.Errorf("Keep of 1000 = %d", n)
	}
	is(t, "a thousand", s, keys[:1000]...)
	room(t, "a thousand", s, most-256-2*744)
	for _, k := range keys {
		must(t, s.Put(k))
	}
	is(t, "many again", s, keys...)
	if n := s.Keep(nil); n != 32896 {
		t.Errorf("Keep of none = %d", n)
	}
	is(t, "none", s)
	room(t, "none", s, most)
}

// P7.2: what is there is found by its bytes, all of them and no others.
func TestHas(t *testing.T) {
	keys := []string{"a", "ab", "abcd", "\x00", "b\x00", "é", "\xff\xfe", chunkOf(5, longest)}
	s := newStore(t, most, keys...)
	for _, k := range []string{
		"", "b", "A", "aB", "abc", "abcde", "bcd", "a ", " a", "a\x00", "\x00\x00", "b", "\x00b", "e",
		"e\u0301", "\xc3", "\xa9", "\xe9", "\xff", "\xfe", "\xfe\xff", "\ufffd", "\xff\xfe\xfd",
		chunkOf(5, longest)[:63], chunkOf(5, longest)[1:], chunkOf(5, longest) + "a", chunkOf(6, longest),
		strings.Repeat("a", 1<<20),
	} {
		if s.Has(k) {
			t.Errorf("Has(%q)", k)
		}
		if err := s.Drop(k); err != api.ErrNone {
			t.Errorf("Drop(%q) = %v", k, err)
		}
	}
	is(t, "asked", s, keys...)
}

// P7.1, P7.2, P7.3: chunks of which one is the beginning of the other stand beside each other.
func TestBeginnings(t *testing.T) {
	whole := chunkOf(9, longest)
	var keys []string
	for n := range longest {
		keys = append(keys, whole[:n+1])
	}
	s := newStore(t, bytesOf(keys), keys...)
	is(t, "all beginnings", s, keys...)
	if !slices.Equal(s.Keys(), keys) {
		t.Errorf("the shorter ones aren't ahead: %s", show(s.Keys()))
	}
	for i := 0; i < longest; i += 2 {
		must(t, s.Drop(keys[i]))
		if s.Has(keys[i]) {
			t.Errorf("dropped, %d bytes are there", i+1)
		}
	}
	var left []string
	for i := 1; i < longest; i += 2 {
		left = append(left, keys[i])
	}
	is(t, "each other one", s, left...)
	if n := s.Keep([]string{whole, "", whole[:1], whole[1:]}); n != 31 {
		t.Errorf("Keep of the longest = %d", n)
	}
	is(t, "the longest", s, whole)
}

// P7.2: Drop, and all that may be asked behind it.
func TestDrop(t *testing.T) {
	for _, k := range []string{"a", "\x00", "ab", "\xff\x80", chunkOf(0, longest)} {
		others := []string{"b", "abc", "a\x00"}
		quota := len(k) + bytesOf(others)
		s := newStore(t, quota, append(slices.Clone(others), k)...)
		if err := s.Put("z"); err != api.ErrFull {
			t.Errorf("Put into a full store: %v", err)
		}
		for range 3 {
			must(t, s.Drop(k))
			is(t, "dropped", s, others...)
			if s.Has(k) {
				t.Errorf("dropped, %q is there", k)
			}
			for range 2 {
				if err := s.Drop(k); err != api.ErrNone {
					t.Errorf("Drop of what was dropped: %v", err)
				}
			}
			if n := s.Keep(append(slices.Clone(others), k)); n != 0 {
				t.Errorf("Keep of what was dropped, and all: %d", n)
			}
			is(t, "dropped twice", s, others...)
			room(t, "dropped", s, len(k))
			must(t, s.Put(k))
			is(t, "put again", s, append(slices.Clone(others), k)...)
			room(t, "put again", s, 0)
		}
	}
}

// P7.2, R3: a Drop of what isn't there is told, and nothing is done.
func TestDropWrong(t *testing.T) {
	for _, keys := range [][]string{nil, {"ab"}, {"ab", "c"}, {"abc", "a"}, many(1024, longest)} {
		s := newStore(t, most, keys...)
		for _, k := range []string{
			"", "b", "abcd", "bc", "AB", "\x00", "ab\x00", chunkOf(2000, longest), chunkOf(0, longest)[:63],
			strings.Repeat("a", longest+1), strings.Repeat("a", 1<<20),
		} {
			for range 2 {
				if err := s.Drop(k); err != api.ErrNone {
					t.Errorf("Drop(%q) = %v", k[:min(len(k), 70)], err)
				}
			}
		}
		is(t, "behind ErrNone", s, keys...)
		room(t, "behind ErrNone", s, most-bytesOf(keys))
	}
}

// P7.2, P7.4: what isn't among the keys is dropped, and counted; kept once more, nothing is.
func TestKeep(t *testing.T) {
	has := []string{"c", "ab", "a", "\x00", "bcd"}
	long := strings.Repeat("a", 1<<20)
	for _, c := range []struct {
		has, keys, left []string
	}{
		// Of no keys.
		{nil, nil, nil},
		{nil, []string{}, nil},
		{[]string{"a"}, nil, nil},
		{[]string{"a"}, []string{}, nil},
		{has, nil, nil},
		{has, []string{}, nil},
		// Of all that is there.
		{[]string{"a"}, []string{"a"}, []string{"a"}},
		{has, has, has},
		{has, []string{"\x00", "a", "ab", "bcd", "c"}, has},
		{has, []string{"c", "bcd", "ab", "a", "\x00"}, has},
		{has, []string{"c", "z", "bcd", "", "ab", long, "a", "\x00"}, has},
		// Of some.
		{has, []string{"c"}, []string{"c"}},
		{has, []string{"bcd"}, []string{"bcd"}},
		{has, []string{"\x00"}, []string{"\x00"}},
		{has, []string{"ab", "c"}, []string{"ab", "c"}},
		{has, []string{"c", "ab"}, []string{"ab", "c"}},
		{has, []string{"a", "\x00", "bcd", "c"}, []string{"a", "\x00", "bcd", "c"}},
		// Of keys that aren't there.
		{nil, []string{"a"}, nil},
		{[]string{"a"}, []string{"b"}, nil},
		{has, []string{"b"}, nil},
		{has, []string{"b", "d", "bc", "cd", "abc", "A"}, nil},
		{has, []string{"b", "c", "d"}, []string{"c"}},
		{has, []string{"x", "ab", "y", "a"}, []string{"ab", "a"}},
		// Of one key twice.
		{[]string{"a"}, []string{"a", "a"}, []string{"a"}},
		{has, []string{"c", "c"}, []string{"c"}},
		{has, []string{"c", "ab", "c", "ab", "ab"}, []string{"c", "ab"}},
		{has, []string{"z", "z"}, nil},
		{has, slices.Concat(has, has), has},
		// Of keys that may not be chunks.
		{nil, []string{""}, nil},
		{has, []string{""}, nil},
		{has, []string{"", ""}, nil},
		{has, []string{strings.Repeat("a", longest+1)}, nil},
		{has, []string{long}, nil},
		{has, []string{"", "c", long}, []string{"c"}},
		{[]string{chunkOf(0, longest)}, []string{chunkOf(0, longest) + "a"}, nil},
		{[]string{chunkOf(0, longest)}, []string{chunkOf(0, longest) + "a", chunkOf(0, longest)}, []string{chunkOf(0, longest)}},
	} {
		what := show(c.has) + ", Keep of " + show(c.keys)
		quota := bytesOf(c.has) + 1
		s := newStore(t, quota, c.has...)
		if n := s.Keep(c.keys); n != len(c.has)-len(c.left) {
			t.Errorf("%s: %d dropped", what, n)
		}
		is(t, what, s, c.left...)
		for range 2 {
			if n := s.Keep(c.keys); n != 0 {
				t.Errorf("%s, once more: %d dropped", what, n)
			}
		}
		is(t, what+", once more", s, c.left...)
		for _, k := range c.has {
			if s.Has(k) != slices.Contains(c.left, k) {
				t.Errorf("%s: Has(%q) = %v", what, k, s.Has(k))
			}
		}
		for _, k := range c.keys {
			if s.Has(k) != slices.Contains(c.left, k) {
				t.Errorf("%s: Has of a key of %d bytes = %v", what, len(k), s.Has(k))
			}
		}
		room(t, what, s, quota-bytesOf(c.left))
		for _, k := range c.has {
			must(t, s.Put(k))
		}
		is(t, what+", put again", s, c.has...)
	}
}

// P7.2: a list of many more keys than a store may have chunks.
func TestKeepOfManyKeys(t *testing.T) {
	s := newStore(t, 10, "a", "bc", "d")
	keys := slices.Repeat([]string{"a", "x", "d", "", "\x00\x01"}, 1<<16)
	if n := s.Keep(keys); n != 1 {
		t.Errorf("Keep = %d", n)
	}
	is(t, "kept", s, "a", "d")
	if n := s.Keep(many(1<<16, 8)); n != 2 {
		t.Errorf("Keep = %d", n)
	}
	is(t, "kept", s)
}

// permuted goes through all orders of a list.
func permuted(list []string, do func([]string)) {
	var on func(int)
	on = func(i int) {
		if i == len(list) {
			do(list)
			return
		}
		for j := i; j < len(list); j++ {
			list[i], list[j] = list[j], list[i]
			on(i + 1)
			list[i], list[j] = list[j], list[i]
		}
	}
	on(0)
}

// P7.3, P7.4: in whatever order chunks are put, the same store comes of them.
func TestOrders(t *testing.T) {
	for _, keys := range [][]string{
		{},
		{"a"},
		{"a", "b"},
		{"a", "ab"},
		{"\x00", "\x7f", "\x80", "\xff"},
		{"b", "a", "ab", "abc", "ba", "\xffa"},
		{chunkOf(0, longest), chunkOf(1, longest), chunkOf(0, 63), chunkOf(256, longest), "z"},
		{"é", "e", "\u20ac", "\U0001f600", "\ufffd", "\xff"},
	} {
		want := rising(keys)
		for _, more := range []int{0, 1, 100} {
			quota := bytesOf(keys) + more
			permuted(slices.Clone(keys), func(order []string) {
				s := newStore(t, quota, order...)
				if !slices.Equal(s.Keys(), want) || s.Size() != bytesOf(want) {
					t.Errorf("%s were put: %s, %d bytes", show(order), show(s.Keys()), s.Size())
				}
				for i, k := range order {
					must(t, s.Put(k))
					if !s.Has(k) {
						t.Errorf("%s were put: the %d-th isn't there", show(order), i)
					}
				}
				if err := s.Put(chunkOf(77, min(longest, more+1))); more < longest && err != api.ErrFull {
					t.Errorf("%s were put: there is room for %d more: %v", show(order), more+1, err)
				}
				if n := s.Keep(order[:len(order)/2]); more < longest && n != len(order)-len(order)/2 {
					t.Errorf("%s were put: Keep of the first half = %d", show(order), n)
				}
				is(t, "half kept", s, order[:len(order)/2]...)
			})
		}
	}
}

// P7.4: doubled, and with others that were dropped between them, they are the same store, too.
func TestOrdersOfMany(t *testing.T) {
	keys := many(1000, 37)
	quota := bytesOf(keys) + longest
	for _, step := range []int{1, 3, 7, 501, 999} {
		s := newStore(t, quota)
		for i := range keys {
			k := keys[i*step%len(keys)]
			must(t, s.Put(k))
			must(t, s.Put(keys[i/2*step%len(keys)]))
			must(t, s.Put(chunkOf(i, longest)))
			must(t, s.Drop(chunkOf(i, longest)))
		}
		what := "each " + strconv.Itoa(step) + "-th"
		is(t, what, s, keys...)
		room(t, what, s, longest)
	}
}

// P7.3: no chunks, one, and many, and what they have together.
func TestKeysAndSize(t *testing.T) {
	for _, c := range []struct {
		put, keys []string
		size      int
	}{
		{nil, nil, 0},
		{[]string{"a"}, []string{"a"}, 1},
		{[]string{"abc"}, []string{"abc"}, 3},
		{[]string{"\x00"}, []string{"\x00"}, 1},
		{[]string{"b", "a"}, []string{"a", "b"}, 2},
		{[]string{"a", "b"}, []string{"a", "b"}, 2},
		{[]string{"a", "a", "a"}, []string{"a"}, 1},
		{[]string{"b", "ab", "a", "aa"}, []string{"a", "aa", "ab", "b"}, 6},
		{[]string{"zz", "b", "abc"}, []string{"abc", "b", "zz"}, 6},
		{[]string{"\xff", "\x80", "\x7f", "\x00", "\x00\x00"}, []string{"\x00", "\x00\x00", "\x7f", "\x80", "\xff"}, 6},
		{[]string{"\U0001f600", "\ufffd", "\xff", "é", "z", "Z"}, []string{"Z", "z", "é", "\ufffd", "\U0001f600", "\xff"}, 12},
		{[]string{"10", "9", "1", "2"}, []string{"1", "10", "2", "9"}, 5},
		{[]string{strings.Repeat("a", 64), strings.Repeat("a", 63), "b"}, []string{strings.Repeat("a", 63), strings.Repeat("a", 64), "b"}, 128},
	} {
		s := newStore(t, most, c.put...)
		for range 3 {
			if got := s.Keys(); !slices.Equal(got, c.keys) {
				t.Errorf("%q were put: %q", c.put, got)
			}
			if got := s.Size(); got != c.size {
				t.Errorf("%q were put: %d bytes", c.put, got)
			}
		}
	}
}

// model is a store as the chapter has it, by a list that is gone through.
type model struct {
	quota int
	keys  []string
}

func (m *model) put(k string) error {
	switch {
	case len(k) == 0 || len(k) > longest:
		return api.ErrArg
	case slices.Contains(m.keys, k):
		return nil
	case bytesOf(m.keys)+len(k) > m.quota:
		return api.ErrFull
	}
	m.keys = append(slices.Clone(m.keys), k)
	return nil
}

func (m *model) drop(k string) error {
	at := slices.Index(m.keys, k)
	if at < 0 {
		return api.ErrNone
	}
	m.keys = slices.Concat(m.keys[:at], m.keys[at+1:])
	return nil
}

func (m *model) keep(keys []string) int {
	var left []string
	for _, k := range m.keys {
		if slices.Contains(keys, k) {
			left = append(left, k)
		}
	}
	n := len(m.keys) - len(left)
	m.keys = left
	return n
}

// step is a call of all that change a store.
type step struct {
	kind string
	keys []string
}

func steps(chunks []string, lists [][]string) []step {
	var all []step
	for _, k := range chunks {
		all = append(all, step{"Put", []string{k}}, step{"Drop", []string{k}})
	}
	for _, l := range lists {
		all = append(all, step{"Keep", l})
	}
	return all
}

// on is one call to both, and what each told.
func (c step) on(s *Store, m *model) (got, want any) {
	switch c.kind {
	case "Put":
		return s.Put(c.keys[0]), m.put(c.keys[0])
	case "Drop":
		return s.Drop(c.keys[0]), m.drop(c.keys[0])
	default:
		return s.Keep(c.keys), m.keep(c.keys)
	}
}

func (c step) show() string { return c.kind + strconv.Quote(strings.Join(c.keys, ",")) }

// P7.1 to P7.4: all rows of four calls of chosen ones, in stores of chosen quotas, come to what the chapter's words come to.
func TestAllSmallRows(t *testing.T) {
	chunks := []string{"", "a", "b", "ab", "abc", strings.Repeat("a", 65)}
	all := steps(chunks, [][]string{nil, {"a"}, {"ab", "b", "ab"}, {"abc", "x", ""}, {"a", "b", "ab", "abc"}})
	for _, quota := range []int{0, 1, 2, 3, 4, 6, 7} {
		for row := range len(all) * len(all) * len(all) * len(all) {
			s, m := newStore(t, quota), &model{quota: quota}
			var did []string
			for range 4 {
				c := all[row%len(all)]
				row /= len(all)
				did = append(did, c.show())
				if got, want := c.on(s, m); got != want {
					t.Fatalf("quota %d, %v: told %v, not %v", quota, did, got, want)
				}
			}
			if got, want := s.Keys(), rising(m.keys); !slices.Equal(got, want) || s.Size() != bytesOf(want) {
				t.Fatalf("quota %d, %v: has %s, %d bytes, not %s", quota, did, show(got), s.Size(), show(want))
			}
			for _, k := range chunks {
				if got := s.Has(k); got != slices.Contains(m.keys, k) {
					t.Fatalf("quota %d, %v: Has(%q) = %v", quota, did, k, got)
				}
			}
		}
	}
}

// P7.1 to P7.4: long rows of calls, each held against the second writing.
func TestLongRows(t *testing.T) {
	var chunks []string
	for _, n := range []int{1, 2, 3, 17, 63, 64} {
		chunks = append(chunks, many(6, n)...)
	}
	all := steps(append(chunks, "", chunkOf(0, 65)), [][]string{chunks[:30], chunks[6:], nil, slices.Concat(chunks, chunks)})
	for seed := range uint32(40) {
		quota := int(seed) * 20
		s, m := newStore(t, quota), &model{quota: quota}
		x := seed + 1
		for i := range 2000 {
			x = x*1664525 + 1013904223
			c := all[int(x>>8)%len(all)]
			if got, want := c.on(s, m); got != want {
				t.Fatalf("quota %d, call %d, %s: told %v, not %v", quota, i, c.show(), got, want)
			}
			want := rising(m.keys)
			if !slices.Equal(s.Keys(), want) || s.Size() != bytesOf(want) || s.Size() > quota {
				t.Fatalf("quota %d, behind call %d, %s: has %s, %d bytes", quota, i, c.show(), show(s.Keys()), s.Size())
			}
		}
	}
}

// textOn is a text that lies on b: a change of b changes it.
func textOn(b []byte) string { return unsafe.String(unsafe.SliceData(b), len(b)) }

// P7.3, R2: a text that was handed in isn't kept.
func TestHandedInTextIsNotKept(t *testing.T) {
	for _, k := range []string{"a", "abc", "\x00\x01", chunkOf(0, longest)} {
		b := []byte(k)
		s := newStore(t, most, "zz", textOn(b))
		b[0]++
		is(t, "handed in and changed", s, "zz", k)
		if s.Has(string(b)) {
			t.Errorf("what it was changed to is there: %q", b)
		}
		// Put once more: what is there is still not the text handed in.
		b[0]--
		must(t, s.Put(textOn(b)))
		b[0]++
		is(t, "put again and changed", s, "zz", k)
		b[0]--
		if n := s.Keep([]string{textOn(b)}); n != 1 {
			t.Errorf("Keep = %d", n)
		}
		b[0]++
		is(t, "kept and changed", s, k)
		b[0]--
		must(t, s.Drop(textOn(b)))
		must(t, s.Put(textOn(b)))
		b[0]++
		is(t, "dropped, put and changed", s, k)
	}
}

// P7.3, R2: a list that was handed in isn't changed, not behind its end either, and isn't kept.
func TestHandedInListStays(t *testing.T) {
	for _, ahead := range [][]string{nil, {"c"}, {"c", "a"}, {"b", "c", "a", "d"}} {
		backing := []string{"d", "b", "d", "x", "", "a", "behind", "its", "end"}
		before := slices.Clone(backing)
		for n := range 7 {
			s := newStore(t, most, ahead...)
			m := &model{quota: most, keys: ahead}
			if got, want := s.Keep(backing[:n]), m.keep(backing[:n]); got != want {
				t.Errorf("Keep(%q) = %d", backing[:n], got)
			}
			if !slices.Equal(backing, before) {
				t.Fatalf("the list was changed: %q", backing)
			}
			is(t, "kept", s, m.keys...)
			for i := range backing {
				backing[i] = "changed"
			}
			is(t, "the list changed", s, m.keys...)
			copy(backing, before)
			is(t, "the list as it was", s, m.keys...)
			must(t, s.Put("e"))
			is(t, "and one more put", s, append(slices.Clone(m.keys), "e")...)
		}
	}
}

// P7.3, R2: a list that was told may be changed and appended to: neither the store nor another answer is.
func TestToldListIsNew(t *testing.T) {
	for _, keys := range [][]string{{"a"}, {"b", "a"}, {"ab", "c", "abc"}, many(100, 3), many(33, longest)} {
		s := newStore(t, most, keys...)
		first, second := s.Keys(), s.Keys()
		for i := range first {
			first[i] = "changed"
		}
		is(t, "the list changed", s, keys...)
		if !slices.Equal(second, rising(keys)) {
			t.Errorf("another answer was changed: %s", show(second))
		}
		_ = append(first[:0], "y", "z")
		_ = append(first, "z")
		_ = append(second[:0], "zz")
		_ = append(second, "zz")
		is(t, "the list appended to", s, keys...)
		third := s.Keys()
		must(t, s.Put("new"))
		must(t, s.Drop(keys[0]))
		if !slices.Equal(third, rising(keys)) {
			t.Errorf("a told list was changed by the store: %s", show(third))
		}
		is(t, "one put, one dropped", s, append(slices.Clone(keys[1:]), "new")...)
		s.Keep(nil)
		if !slices.Equal(third, rising(keys)) {
			t.Errorf("a told list was changed by Keep: %s", show(third))
		}
	}
	s := newStore(t, most)
	_ = append(s.Keys(), "a")
	is(t, "no chunks, appended to", s)
}

// share tells whether two texts have a byte of memory in common.
func share(a, b string) bool {
	if a == "" || b == "" {
		return false
	}
	from, to := uintptr(unsafe.Pointer(unsafe.StringData(a))), uintptr(unsafe.Pointer(unsafe.StringData(b)))
	return from < to+uintptr(len(b)) && to < from+uintptr(len(a))
}

// P7.3, R2: the texts that are told share no memory with what was handed in, with the store, or with each other.
func TestToldTextsAreNew(t *testing.T) {
	in := []string{strings.Clone("abc"), strings.Clone("d"), chunkOf(0, longest), chunkOf(1, 63)}
	in = append(in, in[0][:1], in[0][1:], in[2][10:20])
	s := newStore(t, most, in...)
	var told []string
	for range 3 {
		told = append(told, s.Keys()...)
	}
	for i, a := range told {
		for _, b := range in {
			if share(a, b) {
				t.Errorf("%q, told, and %q, handed in, share memory", a, b)
			}
		}
		for _, b := range told[:i] {
			if share(a, b) {
				t.Errorf("%q and %q, told, share memory", a, b)
			}
		}
	}
}

// P7.3, R2: the bytes of told texts, changed, reach neither the store nor what is told later.
func TestToldTextsChanged(t *testing.T) {
	keys := []string{"a", "bc", chunkOf(0, longest)}
	s := newStore(t, most, keys...)
	for _, k := range s.Keys() {
		b := unsafe.Slice(unsafe.StringData(k), len(k))
		for i := range b {
			b[i] ^= 0xff
		}
	}
	is(t, "told texts changed", s, keys...)
}
