package msg

import (
	"bytes"
	"encoding/binary"
	"math"
	"math/rand"
	"slices"
	"strconv"
	"strings"
	"testing"

	"becket/api"
)

func entry(path string, size int, keys ...string) api.Entry {
	return api.Entry{Path: path, Size: size, Keys: keys}
}

// someNumbers are those that an answer may have and be got with.
func someNumbers() []int {
	return []int{0, 1, 2, 7, 8, 127, 128, 255, 256, 300, 1 << 14, 1<<14 - 1, 1 << 16, 1 << 21, 1<<28 - 1, 1 << 28, 1<<31 - 2, 1<<31 - 1}
}

// someTexts are lists of no, of one and of several texts.
func someTexts() [][]string {
	return [][]string{nil, {}, {""}, {"s"}, {"a", "b"}, {"", "\x00", ""}, {"é", "\xff\x80", "é"}, {allBytes(), "x", text("k", 128)}, strings.Split(text("x", 200), "")}
}

// someEntries are lists of no, of one and of several entries, of no chunks, of one and of several.
func someEntries() [][]api.Entry {
	l := [][]api.Entry{
		nil, {}, {entry("", 0)}, {entry("a", 1, "x")}, {entry("b/c", 3, "xy", "z"), entry("a", 0)}, {entry("a", 5), entry("a", 5), entry("\xff", 300, "", "")},
		make([]api.Entry, 129),
	}
	for _, texts := range someTexts() {
		l = append(l, []api.Entry{entry("a", 1<<31-1, texts...)})
	}
	return l
}

// answers are those that fit, of everything that there is.
func answers() []api.Answer {
	var l []api.Answer
	for _, n := range someNumbers() {
		l = append(l, api.Answer{Code: n}, api.Answer{N: n}, api.Answer{Code: n, N: n, Entries: []api.Entry{entry("a", n)}})
	}
	for _, texts := range someTexts() {
		l = append(l, api.Answer{Names: texts}, api.Answer{Keys: texts}, api.Answer{Code: 1, N: 2, Names: texts, Keys: texts, Entries: []api.Entry{entry("a", 1, texts...)}})
	}
	for _, entries := range someEntries() {
		l = append(l, api.Answer{Entries: entries}, api.Answer{Code: 3, N: 300, Names: []string{"s"}, Keys: []string{"x", ""}, Entries: entries})
	}
	return l
}

// fits holds that an answer is put as the second writing does, and got as it was.
func fits(t *testing.T, why string, a api.Answer) {
	t.Helper()
	want := answerBytes(a)
	if putAnswerElsewhere(a) != want {
		t.Fatalf("%s: the second writing puts %s otherwise", why, showAny(a))
	}
	s := PutAnswer(a)
	if s != want {
		t.Fatalf("%s: PutAnswer(%s) = %s, not %s", why, showAny(a), show([]byte(s)), show([]byte(want)))
	}
	if got, err := GetAnswer(s); !sameAnswer(got, a) || err != nil {
		t.Fatalf("%s: GetAnswer(%s) = %s, %v", why, show([]byte(s)), showAny(got), err)
	}
}

// isLarge holds that an answer is put as one of ErrLarge alone.
func isLarge(t *testing.T, why string, a api.Answer) {
	t.Helper()
	if s := PutAnswer(a); s != large {
		t.Fatalf("%s: PutAnswer(%s) = %s", why, showAny(a), show([]byte(s)))
	}
}

// notAnswer holds that bytes are no answer's: ErrForm itself, and nothing beside it.
func notAnswer(t *testing.T, why, s string) {
	t.Helper()
	if a, err := GetAnswer(s); !isNoAnswer(a) || err != api.ErrForm {
		t.Fatalf("%s: GetAnswer(%s) = %s, %v", why, show([]byte(s)), showAny(a), err)
	}
}

// holdAnswer: of bytes GetAnswer tells what the second writing does, and what was got is put as these bytes. It tells whether there is an answer.
func holdAnswer(t *testing.T, s string) bool {
	t.Helper()
	want, ok := getAnswerElsewhere(s)
	if !ok {
		notAnswer(t, "the second writing has none", s)
		return false
	}
	a, err := GetAnswer(s)
	if !sameAnswer(a, want) || err != nil {
		t.Fatalf("GetAnswer(%s) = %s, %v, not %s", show([]byte(s)), showAny(a), err, showAny(want))
	}
	if again := PutAnswer(a); again != s {
		t.Fatalf("%s was got, %s is put", show([]byte(s)), show([]byte(again)))
	}
	return true
}

type writtenAnswer struct {
	a api.Answer
	s string
}

// answersByHand are answers, and their bytes as written by hand.
func answersByHand() []writtenAnswer {
	return []writtenAnswer{
		{api.Answer{}, "\x00\x00\x00\x00\x00"},
		{api.Answer{Code: int(api.ErrLarge)}, large},
		{api.Answer{Code: 1, N: 127}, "\x01\x7f\x00\x00\x00"},
		{api.Answer{Code: 300, N: 1<<31 - 1}, "\xac\x02\xff\xff\xff\xff\x07\x00\x00\x00"},
		{api.Answer{Names: []string{"s"}}, "\x00\x00\x01\x01s\x00\x00"},
		{api.Answer{Names: []string{"s", "", "t"}, Keys: []string{"é"}}, "\x00\x00\x03\x01s\x00\x01t\x01\x02é\x00"},
		{api.Answer{N: 3, Keys: []string{"xy", "\xff"}}, "\x00\x03\x00\x02\x02xy\x01\xff\x00"},
		{api.Answer{Entries: []api.Entry{entry("a", 0)}}, "\x00\x00\x00\x00\x01\x01a\x00\x00"},
		{api.Answer{Entries: []api.Entry{entry("b/c", 3, "xy", "z"), entry("", 128)}}, "\x00\x00\x00\x00\x02\x03b/c\x03\x02\x02xy\x01z\x00\x80\x01\x00"},
		{api.Answer{Code: 3, N: 300, Names: []string{"s"}, Entries: []api.Entry{entry("a", 1, "x")}}, "\x03\xac\x02\x01\x01s\x00\x01\x01a\x01\x01\x01x"},
		{api.Answer{Keys: []string{text("k", 4089)}}, "\x00\x00\x00\x01\xf9\x1f" + text("k", 4089) + "\x00"},
	}
}

// P12.2: answers' bytes written by hand.
func TestAnswersWrittenByHand(t *testing.T) {
	for _, x := range answersByHand() {
		if s := PutAnswer(x.a); s != x.s {
			t.Errorf("PutAnswer(%s) = %s", showAny(x.a), show([]byte(s)))
		}
		if a, err := GetAnswer(x.s); !sameAnswer(a, x.a) || err != nil {
			t.Errorf("GetAnswer(%s) = %s, %v", show([]byte(x.s)), showAny(a), err)
		}
	}
}

// P12.2, P12.4: answers of all kinds are put, got as they were, and put as those bytes.
func TestAnswersThereAndBack(t *testing.T) {
	for _, a := range answers() {
		fits(t, "one of all", a)
		if !holdAnswer(t, answerBytes(a)) {
			t.Fatalf("%s isn't got", showAny(a))
		}
	}
}

// P12.4: answers have the same bytes only if they are the same.
func TestAnswersApart(t *testing.T) {
	seen := map[string]api.Answer{}
	for _, a := range answers() {
		s := PutAnswer(a)
		if other, ok := seen[s]; ok && !sameAnswer(a, other) {
			t.Errorf("%s and %s have the same bytes", showAny(a), showAny(other))
		}
		seen[s] = a
	}
}

// withNumber are answers that have a number in each place where one stands.
func withNumber(n int) []api.Answer {
	return []api.Answer{
		{Code: n},
		{N: n},
		{Entries: []api.Entry{entry("a", n)}},
		{Entries: []api.Entry{entry("a", n, "x"), entry("b", 1)}},
		{Entries: []api.Entry{entry("a", 1), entry("b", n, "x")}},
		{Code: n, N: 1, Names: []string{"s"}, Keys: []string{"x"}, Entries: []api.Entry{entry("a", 1, "x")}},
		{Code: 1, N: n, Names: []string{"s"}, Keys: []string{"x"}, Entries: []api.Entry{entry("a", 1, "x")}},
		{Code: 1, N: 1, Names: []string{"s"}, Keys: []string{"x"}, Entries: []api.Entry{entry("a", n, "x")}},
	}
}

// P12.2: a number below 0, wherever it stands, is put as ErrLarge.
func TestAnswersOfNumbersBelowZero(t *testing.T) {
	for _, n := range []int{-1, -2, -7, -128, -1 << 31, -1<<31 - 1, -1 << 32, math.MinInt + 1, math.MinInt} {
		for _, a := range withNumber(n) {
			isLarge(t, "a number below 0", a)
		}
		isLarge(t, "all numbers below 0", api.Answer{Code: n, N: n, Entries: []api.Entry{entry("", n)}})
	}
	for _, a := range withNumber(0) {
		fits(t, "a number of 0", a)
	}
}

// P12.2: numbers are put up to the greatest that can be, and got up to 2^31 - 1.
func TestAnswersOfGreatNumbers(t *testing.T) {
	for _, n := range []int{1<<31 - 2, 1<<31 - 1} {
		for _, a := range withNumber(n) {
			fits(t, "a great number", a)
		}
	}
	for _, n := range []int{1 << 31, 1<<31 + 1, 1<<32 - 1, 1 << 32, 1<<32 + 1, 1 << 62, math.MaxInt - 1, math.MaxInt} {
		for _, a := range withNumber(n) {
			s := PutAnswer(a)
			if s != answerBytes(a) {
				t.Errorf("PutAnswer(%s) = %s", showAny(a), show([]byte(s)))
			}
			notAnswer(t, "a number above 2^31 - 1", s)
		}
	}
	for _, n := range []uint64{1 << 31, 1 << 63, math.MaxUint64} {
		num := string(binary.AppendUvarint(nil, n))
		for _, s := range []string{num + "\x00\x00\x00\x00", "\x00" + num + "\x00\x00\x00", "\x00\x00\x00\x00\x01\x00" + num + "\x00"} {
			notAnswer(t, "a number above 2^31 - 1", s)
		}
	}
}

// withText are answers that have a text in each place where one stands.
func withText(s string) []api.Answer {
	return []api.Answer{
		{Names: []string{s}}, {Names: []string{"", s}}, {Names: []string{s, ""}}, {Keys: []string{s}}, {Keys: []string{"a", s, "b"}},
		{Entries: []api.Entry{entry(s, 0)}}, {Entries: []api.Entry{entry("", 0, s)}}, {Entries: []api.Entry{entry("", 0), entry("", 0, "", s)}},
	}
}

// P12.2: answers of just MaxText bytes fit, of one more they don't: by a text of one byte more, wherever it stands; and of a text of MaxText bytes, of one more, and of many more.
func TestAnswersOfLongTexts(t *testing.T) {
	for i := range withText("") {
		for n := 4070; n <= 4100; n++ {
			a := withText(text("x", n))[i]
			is := len(answerBytes(a)) <= 4096
			if is {
				fits(t, "a text of "+strconv.Itoa(n), a)
			} else {
				isLarge(t, "a text of "+strconv.Itoa(n), a)
			}
			if holdAnswer(t, answerBytes(a)) != is {
				t.Errorf("a text of %d is got otherwise", n)
			}
		}
		a := withText(text("x", 4000))[i]
		short := 4096 - len(answerBytes(a))
		fits(t, "just MaxText bytes", withText(text("x", 4000+short))[i])
		isLarge(t, "one byte more", withText(text("x", 4000+short+1))[i])
		for _, n := range []int{4096, 4097, 5000, 1 << 14, 1 << 20, 1 << 24} {
			isLarge(t, "a long text", withText(text("x", n))[i])
		}
	}
}

// P12.2: likewise by a number of one byte more, and by elements without bytes.
func TestAnswersOfJustTooManyBytes(t *testing.T) {
	for _, n := range []int{0, 127, 128, 1<<14 - 1, 1 << 14, 1 << 28, 1<<31 - 1} {
		for size := 4060; size <= 4100; size++ {
			for i, a := range withNumber(n) {
				a.Names = append(slices.Clone(a.Names), text("x", size))
				if len(answerBytes(a)) <= 4096 {
					fits(t, "number "+strconv.Itoa(i), a)
				} else {
					isLarge(t, "number "+strconv.Itoa(i), a)
				}
			}
		}
	}
	for n := 1; n <= 4100; n++ {
		// Of entries some 1360 fit, of texts some 4090.
		if n%100 != 0 && (n < 1355 || n > 1370) && n < 4075 {
			continue
		}
		for i, a := range withMany(n) {
			if len(answerBytes(a)) <= 4096 {
				fits(t, "many "+strconv.Itoa(i), a)
			} else {
				isLarge(t, "many "+strconv.Itoa(i), a)
			}
		}
	}
}

// withMany are answers that have many elements without bytes in each list.
func withMany(n int) []api.Answer {
	return []api.Answer{
		{Names: make([]string, n)}, {Keys: make([]string, n)}, {Entries: make([]api.Entry, n)},
		{Entries: []api.Entry{{Keys: make([]string, n)}}}, {Names: make([]string, n/2), Keys: make([]string, n/2)},
	}
}

// P1, P12.2: answers of far more than fits.
func TestLongAnswers(t *testing.T) {
	long := text("x", 1<<20)
	for _, n := range []int{4091, 4092, 5000, 1 << 16, 1<<16 + 1, 1 << 22} {
		for _, a := range withMany(n)[:4] {
			if n > 4092 {
				isLarge(t, "very many", a)
			}
			a.N = -1
			isLarge(t, "very many, and a number below 0", a)
		}
		many := slices.Repeat([]string{long}, min(n, 1<<16))
		isLarge(t, "many long ones", api.Answer{Names: many, Keys: many, Entries: []api.Entry{{Path: long, Keys: many}}})
	}
	isLarge(t, "entries of all of it", api.Answer{Entries: slices.Repeat([]api.Entry{{Keys: make([]string, 1<<12)}}, 1<<20)})
}

// P12.2, R3: lists of many, by bytes: whatever they tell of how many there are, more than MaxText bytes are no answer's, and fewer than there are aren't, either.
func TestListsOfBytes(t *testing.T) {
	fronts := []string{"\x00\x00", "\x00\x00\x00", "\x00\x00\x00\x00", "\x00\x00\x00\x00\x01\x00\x00"}
	for _, n := range []uint64{1<<16 - 1, 1 << 16, 1<<16 + 1, 1 << 17, 1 << 31, 1 << 32, 1<<32 + 1, 1 << 63, math.MaxUint64} {
		num := string(binary.AppendUvarint(nil, n))
		for _, front := range fronts {
			for _, zeros := range []int{0, 1, 3, 4000, 4086, 4096, 4097, 1<<16 - 1, 1 << 16, 1<<16 + 1, 1<<16 + 2, 1<<16 + 3, 3<<16 + 3} {
				notAnswer(t, "a count of more than there is, or than may be", front+num+text("\x00", zeros))
			}
		}
	}
	for n := 1; n <= 5000; n++ {
		num := string(binary.AppendUvarint(nil, uint64(n)))
		for _, front := range fronts {
			notAnswer(t, "nothing behind", front+num)
			notAnswer(t, "one less", front+num+text("\x00", n-1))
		}
	}
	for n := 4080; n <= 4200; n++ {
		s := "\x00\x00" + string(binary.AppendUvarint(nil, uint64(n))) + text("\x00", n+2)
		if is := holdAnswer(t, s); is != (n+6 <= 4096) {
			t.Errorf("%d names: %v", n, is)
		}
	}
}

// P12.2, R3: bytes that are an answer's but for being more than MaxText are none.
func TestTooManyBytes(t *testing.T) {
	for _, n := range []int{4097, 4098, 5000, 1 << 13, 1 << 16, 1 << 20} {
		name := text("x", 2000)
		names := slices.Repeat([]string{name}, n/2003+1)
		a := api.Answer{Names: names}
		for len(answerBytes(a)) < n {
			a.Keys = append(a.Keys, text("k", min(4000, max(0, n-len(answerBytes(a))-3))))
		}
		notAnswer(t, strconv.Itoa(n)+" bytes", answerBytes(a))
	}
	for n := 4070; n <= 4096; n++ {
		notAnswer(t, "a long text, others behind", "\x00\x00\x02"+string(binary.AppendUvarint(nil, uint64(n)))+text("x", n)+"\x1e"+text("x", 30)+"\x00\x00")
	}
}

// P12.2, R3: no bytes are no answer's; nor are those cut off at each place, or with more behind.
func TestAnswersCutOff(t *testing.T) {
	notAnswer(t, "no bytes", "")
	for _, a := range answers() {
		s := answerBytes(a)
		for n := range s {
			notAnswer(t, "cut off", s[:n])
			notAnswer(t, "cut off, nothing behind", strings.Clone(s[:n]))
		}
		for x := range 256 {
			notAnswer(t, "one more", s+string([]byte{byte(x)}))
		}
		notAnswer(t, "twice", s+s)
		notAnswer(t, "many more", s+text("\x00", 5000))
		notAnswer(t, "up to just MaxText", s+text("\x00", 4096-len(s)))
	}
}

// eachAnswerNumber goes through the numbers of all answers' bytes.
func eachAnswerNumber(do func(number []byte, with func(other []byte) []byte)) {
	for _, a := range answers() {
		if len(answerBytes(a)) < 300 {
			eachPiece(answerPieces(a), do)
		}
	}
}

// P12.2, R3: a number in too many bytes is none, wherever it stands; one that is too great is none, either.
func TestAnswersNumbersOtherwise(t *testing.T) {
	eachAnswerNumber(func(number []byte, with func([]byte) []byte) {
		for zeros := 1; zeros <= 10; zeros++ {
			notAnswer(t, "too many bytes", string(with(longer(number, zeros))))
		}
		n, _ := binary.Uvarint(number)
		for _, more := range []uint64{1 << 31, 1 << 32, 1 << 62, 1 << 63, 1<<63 + 1<<32, math.MaxUint64 - n} {
			notAnswer(t, "too great", string(with(binary.AppendUvarint(nil, n+more))))
		}
		ten := longer(number, 10-len(number))
		ten[9] = 2
		notAnswer(t, "2^64 more", string(with(ten)))
		notAnswer(t, "eleven digits", string(with(append(bytes.Repeat([]byte{0xff}, 10), 1))))
		for d := uint64(1); d <= 3; d++ {
			holdAnswer(t, string(with(binary.AppendUvarint(nil, n+d))))
			holdAnswer(t, string(with(binary.AppendUvarint(nil, n-d))))
		}
	})
}

// P12.2: answers' bytes with a byte left out, put between, or changed are those of another answer, or none's.
func TestChangedAnswers(t *testing.T) {
	for _, x := range answersByHand() {
		b := []byte(x.s)
		for i := range b {
			holdAnswer(t, string(slices.Delete(bytes.Clone(b), i, i+1)))
			for x := range 256 {
				if len(b) > 100 && x&0x7f > 1 {
					continue
				}
				holdAnswer(t, string(slices.Insert(bytes.Clone(b), i, byte(x))))
				changed := bytes.Clone(b)
				changed[i] = byte(x)
				holdAnswer(t, string(changed))
			}
		}
	}
}

// P1, P12.2, P12.4: all bytes of up to six of these, alone and behind some beginnings; and of up to eight of fewer.
func TestAllShortAnswers(t *testing.T) {
	fronts := []string{"", "\x00\x00", "\x01\x02\x01\x01", "\x00\x00\x00", "\x00\x00\x00\x00", "\x00\x00\x00\x00\x01\x01a", "\x00\x00\x00\x00\x02\x00\x00\x00"}
	hold := func(b []byte) bool { return holdAnswer(t, string(b)) }
	got := holdAllShort(fronts, []byte{0, 1, 2, 3, 'a', 7, 0x80, 0xff}, 6, hold)
	got += holdAllShort([]string{""}, []byte{0, 1, 2, 3}, 8, hold)
	if got < 1000 {
		t.Errorf("only %d of them are answers'", got)
	}
}

// P1, P12.2, P12.4: answers' bytes, changed at several places, from a row of numbers that is always the same.
func TestManyChangedAnswers(t *testing.T) {
	row := rand.New(rand.NewSource(121))
	l := answers()
	got := 0
	for range 100000 {
		if holdAnswer(t, string(changeSome(row, []byte(answerBytes(l[row.Intn(len(l))]))))) {
			got++
		}
	}
	if got < 1000 {
		t.Errorf("only %d of them are answers'", got)
	}
}

// P12.2, P12.4: many answers, from a row of numbers that is always the same, are put as the second writing says, and got as they were, if they fit.
func TestManyAnswers(t *testing.T) {
	row := rand.New(rand.NewSource(122))
	num := func() int { return row.Intn(1<<row.Intn(32)) - []int{0, 0, 0, 0, 0, 0, 0, 0, 0, 1}[row.Intn(10)] }
	texts := func() []string {
		var l []string
		for range row.Intn(1 + row.Intn(20)) {
			l = append(l, text(string(rune('a'+row.Intn(26))), row.Intn(1<<row.Intn(10))))
		}
		return l
	}
	count := map[bool]int{}
	for range 20000 {
		a := api.Answer{Code: num(), N: num(), Names: texts(), Keys: texts()}
		for range row.Intn(8) {
			a.Entries = append(a.Entries, entry(text("p", row.Intn(30)), num(), texts()...))
		}
		is := putAnswerElsewhere(a) != large
		count[is]++
		if is {
			fits(t, "some answer", a)
		} else {
			isLarge(t, "some answer", a)
		}
	}
	if min(count[true], count[false]) < 500 {
		t.Error("too few of one sort:", count)
	}
}

// roomyAnswer is an answer whose lists have more behind their ends.
func roomyAnswer(a api.Answer) api.Answer {
	room := func(l []string) []string { return append(slices.Clone(l), "behind")[:len(l)] }
	a.Names, a.Keys = room(a.Names), room(a.Keys)
	a.Entries = append(slices.Clone(a.Entries), entry("behind", 5, "x"))[:len(a.Entries)]
	for i, e := range a.Entries {
		a.Entries[i].Keys = room(e.Keys)
	}
	return a
}

// behindAnswer is an answer of all that its lists have, what is behind their ends, too.
func behindAnswer(a api.Answer) api.Answer {
	whole := func(l []string) []string { return slices.Clone(l[:cap(l)]) }
	a.Names, a.Keys = whole(a.Names), whole(a.Keys)
	a.Entries = slices.Clone(a.Entries[:cap(a.Entries)])
	for i, e := range a.Entries {
		a.Entries[i].Keys = whole(e.Keys)
	}
	return a
}

// P12.3, R2: an answer that is handed in stays as it is, what its lists have behind their ends, too; whether it fits or not.
func TestAnswerStays(t *testing.T) {
	l := answers()
	for _, a := range slices.Clone(l) {
		a.Code = -1
		l = append(l, a)
	}
	for _, a := range append(l, withMany(5000)...) {
		in := roomyAnswer(a)
		want := behindAnswer(in)
		PutAnswer(in)
		PutAnswer(in)
		if !sameAnswer(in, a) || !sameAnswer(behindAnswer(in), want) {
			t.Fatalf("%s became %s", showAny(a), showAny(in))
		}
	}
}

// P12.3, R2: what is told may be changed: what is told again doesn't change; nor do bytes that are told, with the answer.
func TestAnswerIsNew(t *testing.T) {
	for _, a := range answers() {
		in := cloneAnswer(a)
		s := PutAnswer(in)
		spoilAnswer(in)
		if s != answerBytes(a) {
			t.Fatalf("%s: a change of the answer reached %s", showAny(a), show([]byte(s)))
		}
		one, err := GetAnswer(s)
		if err != nil {
			t.Fatal(err)
		}
		two, _ := GetAnswer(s)
		spoilAnswer(one)
		if s != answerBytes(a) || !sameAnswer(two, a) {
			t.Fatalf("%s: a change of what was told reached %s, %s", showAny(a), show([]byte(s)), showAny(two))
		}
		if three, err := GetAnswer(s); !sameAnswer(three, a) || err != nil {
			t.Fatalf("%s: a change of what was told was kept: %s, %v", showAny(a), showAny(three), err)
		}
	}
}

// P12.3, R2: what is told shares no memory with what was handed in, nor with what was told ahead of it, nor two of its lists with each other.
func TestAnswersMemoryApart(t *testing.T) {
	for _, a := range append(answers(), withText(text("x", 3000))...) {
		s := answerBytes(a)
		one, err := GetAnswer(s)
		if err != nil {
			t.Fatal(err)
		}
		two, _ := GetAnswer(s)
		things := [][]span{{textSpan(s)}, answerSpans(a), answerSpans(one), answerSpans(two), {textSpan(PutAnswer(a))}, {textSpan(PutAnswer(a))}}
		for i, spans := range things {
			for _, other := range things[:i] {
				if shares(spans, other) {
					t.Fatalf("%s: memory is shared", showAny(a))
				}
			}
		}
		if listsMeet(answerSpans(one)) {
			t.Fatalf("%s: two lists share memory", showAny(a))
		}
	}
	l := []string{"ab", "cd"}
	if a := (api.Answer{Names: l, Keys: l[1:]}); !shares(textsSpans(l), answerSpans(a)) || !listsMeet(answerSpans(a)) {
		t.Error("what is shared isn't found")
	}
}
