package vote

import (
	"math"
	"math/bits"
	"math/rand"
	"slices"
	"strconv"
	"strings"
	"testing"
	"unsafe"

	"becket/api"
)

const (
	faultsMost = 4 // MaxFaults, written out
	least      = math.MinInt
	greatest   = math.MaxInt
)

// said are votes: each of a node's number and what it says, with spaces between.
func said(s string) []api.Vote {
	var l []api.Vote
	for _, word := range strings.Fields(s) {
		at := strings.IndexFunc(word, func(r rune) bool { return r != '-' && (r < '0' || r > '9') })
		if at < 0 {
			at = len(word)
		}
		from, err := strconv.Atoi(word[:at])
		if err != nil {
			panic(word)
		}
		l = append(l, api.Vote{From: from, What: word[at:]})
	}
	return l
}

// show tells votes, of many only some.
func show(l []api.Vote) string {
	var list []string
	for _, v := range l[:min(len(l), 20)] {
		list = append(list, strconv.Itoa(v.From)+" "+strconv.Quote(v.What[:min(len(v.What), 10)]))
	}
	return strconv.Itoa(len(l)) + " votes (" + strings.Join(list, ", ") + ")"
}

// whoElsewhere is a second writing of P11.1: each vote's place among those that rise is looked for.
func whoElsewhere(l []api.Vote, what string) []int {
	var who []int
	for _, v := range l {
		if v.What != what {
			continue
		}
		if at, is := slices.BinarySearch(who, v.From); !is {
			who = slices.Insert(who, at, v.From)
		}
	}
	return who
}

// winnerElsewhere is a second writing of P11.2: of the shortest beginning of l in which at least need say a thing, that thing.
func winnerElsewhere(l []api.Vote, need int) (string, bool) {
	if need <= 0 {
		return "", false
	}
	for n := range len(l) + 1 {
		for _, v := range l[:n] {
			if len(whoElsewhere(l[:n], v.What)) >= need {
				return v.What, true
			}
		}
	}
	return "", false
}

// asks holds all that is told of votes against the second writing.
func asks(t *testing.T, l []api.Vote, things []string, needs ...int) {
	t.Helper()
	for _, what := range things {
		want := whoElsewhere(l, what)
		if got := Who(l, what); !slices.Equal(got, want) {
			t.Fatalf("Who(%s, %q) = %v, not %v", show(l), what, got, want)
		}
		if got := Count(l, what); got != len(want) {
			t.Fatalf("Count(%s, %q) = %d, not %d", show(l), what, got, len(want))
		}
	}
	for _, need := range needs {
		want, ok := winnerElsewhere(l, need)
		if got, is := Winner(l, need); got != want || is != ok {
			t.Fatalf("Winner(%s, %d) = %q, %t, not %q, %t", show(l), need, got, is, want, ok)
		}
	}
}

// P11.1: the chapter's example, and the edges.
func TestWhoSaysIt(t *testing.T) {
	for _, c := range []struct {
		votes, what string
		who         []int
	}{
		{"1a 2a 1a", "a", []int{1, 2}},
		{"", "a", nil},
		{"", "", nil},
		{"3a", "a", []int{3}},
		{"3a", "b", nil},
		{"3a", "", nil},
		{"3", "", []int{3}},
		{"3", "a", nil},
		{"3a", "aa", nil},
		{"3aa", "a", nil},
		{"3a", "A", nil},
		{"0a 0a", "a", []int{0}},
		{"0a 0a 0a 0a", "a", []int{0}},
		{"0a 1a 0a 2a 0a 0a", "a", []int{0, 1, 2}},
		{"2a 2a 1a 1a 2a 2a 1a 1a", "a", []int{1, 2}},
		{"1a 1b", "a", []int{1}},
		{"1a 1b", "b", []int{1}},
		{"1a 1b 1a 1b 1b 2b", "a", []int{1}},
		{"1a 1b 1a 1b 1b 2b", "b", []int{1, 2}},
		{"5a 4a 3a 2a 1a 0a", "a", []int{0, 1, 2, 3, 4, 5}},
		{"5a 4b 3a 2b 1a 0b", "a", []int{1, 3, 5}},
		{"10a 9a 100a 11a", "a", []int{9, 10, 11, 100}},
		{"3a 1a 2a 1a 3a", "a", []int{1, 2, 3}},
		{"1 2a 0 1", "", []int{0, 1}},
		{"0a -1a 1a -2a -1a", "a", []int{-2, -1, 0, 1}},
	} {
		l := said(c.votes)
		if got := Who(l, c.what); !slices.Equal(got, c.who) {
			t.Errorf("Who(%q, %q) = %v, not %v", c.votes, c.what, got, c.who)
		}
		if got := Count(l, c.what); got != len(c.who) {
			t.Errorf("Count(%q, %q) = %d, not %d", c.votes, c.what, got, len(c.who))
		}
	}
}

// P11.2: what so many say first wins, wherever it is said first or last, and whatever more of it comes behind.
func TestWinner(t *testing.T) {
	for _, c := range []struct {
		votes string
		need  int
		want  string
		is    bool
	}{
		{"", 1, "", false},
		{"0a", 1, "a", true},
		{"0a", 2, "", false},
		{"0a 0a", 2, "", false},
		{"0a 0a 0a 1b", 2, "", false},
		{"0a 0b", 2, "", false},
		{"0a 0b 0a 0b 0b", 2, "", false},
		{"0a 1a", 1, "a", true},
		{"0a 1a", 2, "a", true},
		{"0a 1a", 3, "", false},
		{"1a 0a", 2, "a", true},
		{"0a 1b 2b", 1, "a", true},
		{"0a 1b 2b", 2, "b", true},
		{"0a 1b 2b 1a", 2, "b", true},
		{"0a 1b 1a 2b", 2, "a", true},
		{"0b 1a 2a 1b 2b 3b", 2, "a", true},
		{"0b 1a 2a 1b 2b 3b", 3, "b", true},
		{"0a 0a 1b 1b 2a 3b", 2, "a", true},
		{"0a 0a 1b 2b 1a", 2, "b", true},
		{"0a 0b 1a 1b 2a 2b", 3, "a", true},
		{"0a 0b 1b 1a 2b 2a", 3, "b", true},
		{"0a 0b 0a 1b 0a 1a", 2, "b", true},
		{"3a 2b 1a 0b", 2, "a", true},
		{"3z 2a 1z 0a", 2, "z", true},
		{"2z 1a 0z 3a", 2, "z", true},
		{"0 1a 2", 2, "", true},
		{"0 0 1a 2a", 2, "a", true},
		{"0", 1, "", true},
		{"0 0", 2, "", false},
	} {
		if got, is := Winner(said(c.votes), c.need); got != c.want || is != c.is {
			t.Errorf("Winner(%q, %d) = %q, %t, not %q, %t", c.votes, c.need, got, is, c.want, c.is)
		}
	}
}

// P11.2, R3: a need of 0 and below has no winner; neither has one that is more than say it.
func TestWinnerNeed(t *testing.T) {
	for _, votes := range []string{"", "0", "0a", "0a 1a", "0a 0a 0b", "4a 3a 2a 1a 0a"} {
		l := said(votes)
		for _, need := range []int{least, least + 1, -100, -2, -1, 0, 6, 7, 100, greatest - 1, greatest} {
			if got, is := Winner(l, need); got != "" || is {
				t.Errorf("Winner(%q, %d) = %q, %t", votes, need, got, is)
			}
		}
	}
	for n := 1; n <= 20; n++ {
		var l []api.Vote
		for i := range n {
			l = append(l, api.Vote{From: n - i, What: "a"}, api.Vote{From: n - i, What: "a"})
		}
		for need := 1; need <= n; need++ {
			if got, is := Winner(l, need); got != "a" || !is {
				t.Errorf("of %d that say it %d aren't enough: %q, %t", n, need, got, is)
			}
		}
		if got, is := Winner(l, n+1); got != "" || is {
			t.Errorf("%d that say it are %d: %q, %t", n, n+1, got, is)
		}
	}
}

// P11.3: of numbers that may be, 2 f + 1; of all others, 0.
func TestQuorum(t *testing.T) {
	for f, want := range []int{1, 3, 5, 7, 9} {
		if got := Quorum(f); got != want {
			t.Errorf("Quorum(%d) = %d, not %d", f, got, want)
		}
	}
	for _, f := range []int{least, least + 1, -1 << 32, -100, -2, -1, 5, 6, 100, 1 << 32, greatest / 2, greatest/2 + 1, greatest - 1, greatest} {
		if got := Quorum(f); got != 0 {
			t.Errorf("Quorum(%d) = %d", f, got)
		}
	}
	if faultsMost != api.MaxFaults {
		t.Error("MaxFaults isn't as written out")
	}
}

// P11.3: how many may be faulty, of few nodes as written out.
func TestFaultsOfFew(t *testing.T) {
	for i, want := range []int{0, 0, 0, 1, 1, 1, 2, 2, 2, 3, 3, 3, 4, 4, 4, 5} {
		if got := Faults(i + 1); got != want {
			t.Errorf("Faults(%d) = %d, not %d", i+1, got, want)
		}
	}
	for _, n := range []int{least, least + 1, least + 2, -1 << 32, -100, -4, -3, -2, -1, 0} {
		if got := Faults(n); got != 0 {
			t.Errorf("Faults(%d) = %d", n, got)
		}
	}
}

// fits tells whether 3 f + 1 is no more than n, in twice as many bits as a number has.
func fits(f, n int) bool {
	high, low := bits.Mul64(3, uint64(f))
	low, more := bits.Add64(low, 1, 0)
	return high+more == 0 && low <= uint64(n)
}

// P11.3: f is the greatest that 3 f + 1 lets be; of many nodes, too, and of as many as a number can be.
func TestFaultsIsTheGreatest(t *testing.T) {
	var all []int
	for n := range 3000 {
		all = append(all, n+1, greatest-n)
	}
	for shift := range 62 {
		for d := -4; d <= 4; d++ {
			f := 1 << shift / 3
			all = append(all, 3*f+1+d, 1<<shift+d)
		}
	}
	for _, n := range all {
		if n < 1 {
			continue
		}
		if f := Faults(n); f < 0 || !fits(f, n) || fits(f+1, n) {
			t.Errorf("Faults(%d) = %d", n, f)
		}
	}
	for f := range 2000 {
		for d, want := range []int{f, f, f, f + 1} {
			if got := Faults(3*f + 1 + d); got != want {
				t.Errorf("Faults(3*%d+1+%d) = %d", f, d, got)
			}
		}
	}
	if got := Faults(greatest); got != 3074457345618258602 {
		t.Errorf("Faults(%d) = %d", greatest, got)
	}
}

// rows are all rows of n of these votes.
func rows(n int, of []api.Vote, do func([]api.Vote)) {
	l := make([]api.Vote, n)
	var fill func(int)
	fill = func(i int) {
		if i == n {
			do(l)
			return
		}
		for _, v := range of {
			l[i] = v
			fill(i + 1)
		}
	}
	fill(0)
}

// P11.1, P11.2, P11.5: all rows of up to six votes of three nodes and two things, one of them the empty text.
func TestAllSmallRows(t *testing.T) {
	of := said("0 1 2 0a 1a 2a")
	for n := range 7 {
		rows(n, of, func(l []api.Vote) {
			asks(t, l, []string{"", "a", "b"}, -1, 0, 1, 2, 3, 4)
		})
	}
}

// P11.1, P11.2, P11.5: all rows of up to five votes of two nodes, far apart, and three things.
func TestAllRowsOfTwoNodes(t *testing.T) {
	var of []api.Vote
	for _, from := range []int{least, greatest} {
		for _, what := range []string{"b", "a", "\x00\xff"} {
			of = append(of, api.Vote{From: from, What: what})
		}
	}
	for n := range 6 {
		rows(n, of, func(l []api.Vote) {
			asks(t, l, []string{"b", "a", "\x00\xff", ""}, 0, 1, 2, 3)
		})
	}
}

// P11.1, P11.2, P11.5: longer rows, from a fixed seed: of few nodes and many, of all numbers, of few things and many.
func TestLongerRows(t *testing.T) {
	r := rand.New(rand.NewSource(11))
	numbers := []int{least, least + 1, -1 << 32, -1, 0, 1, 1 << 32, greatest - 1, greatest}
	things := []string{"", "a", "b", "ab", "a\x00", "\xff", "é", strings.Repeat("a", 5000), strings.Repeat("a", 5001)}
	for range 3000 {
		nodes, kinds := 1+r.Intn(15), 1+r.Intn(len(things))
		var l []api.Vote
		for range r.Intn(60) {
			from := r.Intn(nodes)
			if nodes > 12 {
				from = numbers[r.Intn(len(numbers))]
			}
			l = append(l, api.Vote{From: from, What: things[r.Intn(kinds)]})
		}
		asks(t, l, append(things[:kinds:kinds], "nobody"), r.Intn(20)-3, 1, 2, 3, 5)
	}
}

// P11.5: whoever says it twice counts once, however often, side by side and with others between.
func TestTwiceCountsOnce(t *testing.T) {
	r := rand.New(rand.NewSource(5))
	for n := 1; n <= 13; n++ {
		var once []api.Vote
		for from := range n {
			once = append(once, api.Vote{From: from, What: "a"})
		}
		sideBySide := []api.Vote{}
		for _, v := range once {
			sideBySide = append(sideBySide, v, v, v)
		}
		between := slices.Concat(once, once, said("0b 0b 1c"), once)
		mixed := slices.Clone(between)
		r.Shuffle(len(mixed), func(i, j int) { mixed[i], mixed[j] = mixed[j], mixed[i] })
		for _, l := range [][]api.Vote{once, sideBySide, between, mixed} {
			if got := Count(l, "a"); got != n {
				t.Errorf("Count(%s) = %d, not %d", show(l), got, n)
			}
			if got := Who(l, "a"); !slices.Equal(got, Who(once, "a")) || len(got) != n {
				t.Errorf("Who(%s) = %v", show(l), got)
			}
			if _, is := Winner(l, n); !is {
				t.Errorf("Winner(%s, %d): none", show(l), n)
			}
			if got, is := Winner(l, n+1); is {
				t.Errorf("Winner(%s, %d) = %q", show(l), n+1, got)
			}
		}
	}
}

// withQuorum are the things, of those that are said, that a quorum says.
func withQuorum(l []api.Vote, f int) []string {
	var things []string
	for _, v := range l {
		if Count(l, v.What) >= Quorum(f) && !slices.Contains(things, v.What) {
			things = append(things, v.What)
		}
	}
	return things
}

// P11.5: of 3 f + 1 nodes that each say one thing alone no two things have a quorum, and Winner tells the one that has.
func TestNoTwoThingsHaveAQuorum(t *testing.T) {
	for f, kinds := range []int{4, 4, 3, 2, 2} {
		n := 3*f + 1
		if Faults(n) != f {
			t.Fatalf("Faults(%d) = %d", n, Faults(n))
		}
		var things []int
		var say func()
		say = func() {
			if len(things) < n {
				for what := range kinds {
					things = append(things, what)
					say()
					things = things[:len(things)-1]
				}
				return
			}
			var l []api.Vote
			for from, what := range things {
				v := api.Vote{From: from, What: string(rune('a' + what))}
				l = append(l, v, v)
			}
			have := withQuorum(l, f)
			if len(have) > 1 {
				t.Fatalf("%s: %q have a quorum", show(l), have)
			}
			got, is := Winner(l, Quorum(f))
			if is != (len(have) == 1) || is && got != have[0] || !is && got != "" {
				t.Fatalf("%s: Winner = %q, %t, but %q have a quorum", show(l), got, is, have)
			}
		}
		say()
	}
}

// P11.5: two quorums of 3 f + 1 have f + 1 in common, and none less: f that say two things make no two quorums, f + 1 can.
func TestQuorumsHaveSomeInCommon(t *testing.T) {
	for f := 1; f <= faultsMost; f++ {
		n := 3*f + 1
		for both := range n + 1 {
			found := false
			for split := range n - both + 1 {
				var l []api.Vote
				for from := range n {
					if from < both || from-both < split {
						l = append(l, api.Vote{From: from, What: "a"})
					}
					if from < both || from-both >= split {
						l = append(l, api.Vote{From: from, What: "b"})
					}
				}
				two := len(withQuorum(l, f)) == 2
				if two && both < f+1 {
					t.Errorf("of %d, %d that say both make two quorums", n, both)
				}
				found = found || two
			}
			if !found && both >= f+1 {
				t.Errorf("of %d, %d that say both make no two quorums", n, both)
			}
		}
	}
}

// P11.5: all pairs of quorums, of 4 and of 7 nodes.
func TestPairsOfQuorums(t *testing.T) {
	for f := 1; f <= 2; f++ {
		n := 3*f + 1
		for one := range 1 << n {
			for two := range 1 << n {
				if bits.OnesCount(uint(one)) < Quorum(f) || bits.OnesCount(uint(two)) < Quorum(f) {
					continue
				}
				if common := bits.OnesCount(uint(one & two)); common < f+1 {
					t.Fatalf("of %d nodes, the quorums %b and %b have %d in common", n, one, two, common)
				}
			}
		}
	}
}

// P11.1, P11.2, R3: wrong inputs: no votes at all, nil or empty.
func TestNoVotes(t *testing.T) {
	for _, l := range [][]api.Vote{nil, {}, said("0a 1a")[:0]} {
		for _, what := range []string{"", "a", strings.Repeat("x", 10000)} {
			if got := Who(l, what); len(got) != 0 {
				t.Errorf("Who = %v", got)
			}
			if got := Count(l, what); got != 0 {
				t.Errorf("Count = %d", got)
			}
		}
		for _, need := range []int{least, -1, 0, 1, 2, greatest} {
			if got, is := Winner(l, need); got != "" || is {
				t.Errorf("Winner(%d) = %q, %t", need, got, is)
			}
		}
	}
}

// P11.1, P1: nodes may be any numbers: they rise as numbers do, with no wrap-round.
func TestNodesOfAllNumbers(t *testing.T) {
	want := []int{least, least + 1, -1 << 33, -1<<33 + 1, -2, -1, 0, 1, 2, 1 << 33, 1<<33 + 1, greatest - 1, greatest}
	var l []api.Vote
	for _, i := range rand.New(rand.NewSource(1)).Perm(len(want)) {
		l = append(l, api.Vote{From: want[i], What: "a"})
	}
	l = append(l, l...)
	if got := Who(l, "a"); !slices.Equal(got, want) {
		t.Errorf("Who = %v", got)
	}
	if got := Count(l, "a"); got != len(want) {
		t.Errorf("Count = %d", got)
	}
	if got, is := Winner(l, len(want)); got != "a" || !is {
		t.Errorf("Winner = %q, %t", got, is)
	}
	if got, is := Winner(l, len(want)+1); got != "" || is {
		t.Errorf("Winner = %q, %t", got, is)
	}
}

// P1: many votes, and long ones: each call ends, and soon.
func TestManyVotes(t *testing.T) {
	const n = 1 << 19
	var l []api.Vote
	for i := range n {
		l = append(l, api.Vote{From: n - i, What: "a"}, api.Vote{From: i % 7, What: strconv.Itoa(i)})
	}
	if got := Who(l, "a"); len(got) != n || got[0] != 1 || got[n-1] != n || !slices.IsSorted(got) {
		t.Errorf("Who: %d nodes", len(got))
	}
	if got := Count(l, "a"); got != n {
		t.Errorf("Count = %d", got)
	}
	if got, is := Winner(l, n); got != "a" || !is {
		t.Errorf("Winner = %q, %t", got, is)
	}
	if got, is := Winner(l, n+1); got != "" || is {
		t.Errorf("Winner = %q, %t", got, is)
	}
	long := strings.Repeat("x", 1<<22)
	l = []api.Vote{{From: 0, What: long}, {From: 1, What: long + "y"}, {From: 1, What: long}, {From: 0, What: long[1:]}}
	if got := Who(l, long); !slices.Equal(got, []int{0, 1}) {
		t.Errorf("Who = %v", got)
	}
	if got, is := Winner(l, 2); got != long || !is {
		t.Errorf("Winner: %d bytes, %t", len(got), is)
	}
}

// some are lists of votes that tell something.
func some() [][]api.Vote {
	return [][]api.Vote{
		said("3a"), said("3a 1b 3a 0b 2a"), said("5a 4a 3a 2a 1a 0a"), said("2b 2a 2b 2a 1a 1b"),
		said("1"), said("1 0 1 0"), said("9abcdef 8abcdef 9abcdef 7x"),
	}
}

// P11.4, R2: votes that were handed in stay as they are, and what lies behind their end does, too.
func TestHandedInStays(t *testing.T) {
	for _, whole := range some() {
		kept := slices.Clone(whole)
		for n := range len(whole) + 1 {
			l := whole[:n]
			for _, what := range []string{"a", "b", "", "abcdef", "nobody"} {
				Who(l, what)
				Count(l, what)
			}
			for need := -1; need < 7; need++ {
				Winner(l, need)
			}
			if !slices.Equal(whole, kept) {
				t.Fatalf("%s became %s", show(kept), show(whole))
			}
		}
	}
}

// P11.4, R2: nothing is kept: votes that were handed in may be changed, what was told is as it was, and what is told then is of the new ones.
func TestNothingIsKept(t *testing.T) {
	for _, l := range some() {
		what := l[0].What
		want := whoElsewhere(l, what)
		who := Who(l, what)
		winner, _ := Winner(l, 1)
		for i := range l {
			l[i] = api.Vote{From: 100 + i, What: "new"}
		}
		if !slices.Equal(who, want) || winner != what {
			t.Errorf("what was told became %v, %q", who, winner)
		}
		asks(t, l, []string{what, "new"}, 0, 1, 2, len(l), len(l)+1)
	}
}

// P11.4, R2: a list that was told may be changed and appended to; what is told again, and was told beside it, is as it was.
func TestToldMayBeChanged(t *testing.T) {
	for _, l := range some() {
		what := l[0].What
		want := whoElsewhere(l, what)
		kept := slices.Clone(l)
		one, two := Who(l, what), Who(l, what)
		for i := range one[:cap(one)] {
			one[:cap(one)][i] = -7
		}
		_ = append(one, -8)
		if !slices.Equal(two, want) || !slices.Equal(l, kept) {
			t.Errorf("%s: a change of what was told was seen: %v, %s", show(kept), two, show(l))
		}
		if got := Who(l, what); !slices.Equal(got, want) || Count(l, what) != len(want) {
			t.Errorf("%s: a change of what was told was kept: %v", show(kept), got)
		}
	}
}

// share tells whether two texts have a byte of memory in common.
func share(a, b string) bool {
	if a == "" || b == "" {
		return false
	}
	x, y := uintptr(unsafe.Pointer(unsafe.StringData(a))), uintptr(unsafe.Pointer(unsafe.StringData(b)))
	return x < y+uintptr(len(b)) && y < x+uintptr(len(a))
}

// P11.4, R2: the text that is told shares no memory with what was handed in, nor with what was told ahead of it.
func TestToldTextIsNew(t *testing.T) {
	text := strings.Repeat("what is said", 10)
	l := []api.Vote{{From: 0, What: text}, {From: 1, What: strings.Clone(text)}, {From: 2, What: text[:50]}}
	for need := 1; need <= 2; need++ {
		one, is := Winner(l, need)
		two, also := Winner(l, need)
		if one != text || two != text || !is || !also {
			t.Fatalf("Winner(%d) = %q, %t", need, one, is)
		}
		if share(one, two) || share(one, l[0].What) || share(one, l[1].What) || share(two, l[0].What) || share(two, l[1].What) {
			t.Errorf("Winner(%d): memory is shared", need)
		}
	}
	if !share(text, text[:50]) {
		t.Error("what is shared isn't found")
	}
}
