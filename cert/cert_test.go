package cert

import (
	"math/rand"
	"slices"
	"strconv"
	"strings"
	"testing"

	"becket/api"
)

// holdProof: whether a proof holds is as wanted, here and in the second writing.
func holdProof(t *testing.T, why string, f int, p api.Proof, view int, want bool) {
	t.Helper()
	if proofElsewhere(f, p, view) != want {
		t.Fatalf("%s: the second writing doesn't tell %t of Proof(%d, %s, %d)", why, want, f, show(p), view)
	}
	if Proof(f, p, view) != want {
		t.Fatalf("%s: Proof(%d, %s, %d) isn't %t", why, f, show(p), view, want)
	}
}

func holdChange(t *testing.T, why string, f int, c api.Change, want bool) {
	t.Helper()
	if changeElsewhere(f, c) != want {
		t.Fatalf("%s: the second writing doesn't tell %t of Change(%d, %s)", why, want, f, show(c))
	}
	if Change(f, c) != want {
		t.Fatalf("%s: Change(%d, %s) isn't %t", why, f, show(c), want)
	}
}

func holdChanges(t *testing.T, why string, f int, l []api.Change, view int, want bool) {
	t.Helper()
	if changesElsewhere(f, l, view) != want {
		t.Fatalf("%s: the second writing doesn't tell %t of Changes(%d, %s, %d)", why, want, f, show(l), view)
	}
	if Changes(f, l, view) != want {
		t.Fatalf("%s: Changes(%d, %s, %d) isn't %t", why, f, show(l), view, want)
	}
}

// The limits that the tests write out are api's.
func TestLimits(t *testing.T) {
	if api.MaxFaults != 4 || api.MaxNodes != 13 || api.MaxView != 64 || api.MaxSeq != 64 {
		t.Error("a limit isn't as written out")
	}
}

// P13.1: the chapter's example, and some more by hand; as great views as there can be, too.
func TestPrimary(t *testing.T) {
	for _, c := range []struct{ f, view, want int }{
		{1, 5, 1},
		{1, 0, 0}, {1, 1, 1}, {1, 2, 2}, {1, 3, 3}, {1, 4, 0}, {1, 63, 3}, {1, 64, 0}, {1, 65, 1},
		{2, 0, 0}, {2, 6, 6}, {2, 7, 0}, {2, 9, 2}, {2, 64, 1},
		{3, 0, 0}, {3, 9, 9}, {3, 10, 0}, {3, 64, 4},
		{4, 0, 0}, {4, 12, 12}, {4, 13, 0}, {4, 64, 12}, {4, 65, 0},
		{1, greatest, 3}, {1, greatest - 3, 0}, {2, greatest, 0}, {2, greatest - 1, 6},
		{3, greatest, 7}, {4, greatest, 7}, {4, greatest - 7, 0}, {1, 1 << 32, 0}, {3, 1 << 32, 6},
	} {
		if got, err := Primary(c.f, c.view); got != c.want || err != nil {
			t.Errorf("Primary(%d, %d) = %d, %v, not %d", c.f, c.view, got, err, c.want)
		}
	}
}

// P13.1: from view to view the next node is the primary, behind the last one the first.
func TestPrimaryGoesRound(t *testing.T) {
	for i, last := range []int{3, 6, 9, 12} {
		want := 0
		for view := range 500 {
			if got, err := Primary(i+1, view); got != want || err != nil {
				t.Errorf("Primary(%d, %d) = %d, %v, not %d", i+1, view, got, err, want)
			}
			if want++; want > last {
				want = 0
			}
		}
	}
}

// P13.1, R1, R3, P1: ErrArg itself, and 0, of an f that may not be, and of a view below 0.
func TestPrimaryArg(t *testing.T) {
	for _, f := range append(faults(), wrongFaults()...) {
		for _, view := range numbers() {
			if slices.Contains(faults(), f) && view >= 0 {
				continue
			}
			if got, err := Primary(f, view); got != 0 || err != api.ErrArg {
				t.Errorf("Primary(%d, %d) = %d, %v", f, view, got, err)
			}
		}
	}
}

// P13.2: proofs that hold and that don't, by hand, of 4 nodes: View 5's primary is 1.
func TestProof(t *testing.T) {
	for _, c := range []struct {
		p    api.Proof
		view int
		want bool
	}{
		{proof(5, 1, "b", 0, 2), 6, true},
		{proof(5, 1, "b", 0, 3), 6, true},
		{proof(5, 1, "b", 2, 3), 6, true},
		{proof(5, 1, "b", 0, 2, 3), 6, true},
		{proof(5, 64, "", 0, 2, 3), 64, true},
		{proof(0, 1, "b", 1, 2), 1, true},
		{proof(4, 1, "b", 1, 2, 3), 5, true},
		{proof(3, 1, "b", 0, 1, 2), 4, true},
		{proof(5, 1, "b", 0, 2), 5, false},
		{proof(5, 1, "b", 0, 2), 4, false},
		{proof(5, 1, "b", 0, 2), 0, false},
		{proof(0, 1, "b", 1, 2), 0, false},
		{proof(5, 0, "b", 0, 2), 6, false},
		{proof(5, 65, "b", 0, 2), 6, false},
		{proof(5, 1, "b"), 6, false},
		{proof(5, 1, "b", 0), 6, false},
		{proof(5, 1, "b", 0, 0), 6, false},
		{proof(5, 1, "b", 2, 0), 6, false},
		{proof(5, 1, "b", 0, 2, 2), 6, false},
		{proof(5, 1, "b", 0, 3, 2), 6, false},
		{proof(5, 1, "b", 0, 1), 6, false},
		{proof(5, 1, "b", 1, 2), 6, false},
		{proof(5, 1, "b", 0, 1, 2), 6, false},
		{proof(5, 1, "b", 0, 1, 2, 3), 6, false},
		{proof(5, 1, "b", -1, 0, 2), 6, false},
		{proof(5, 1, "b", 0, 2, 4), 6, false},
	} {
		holdProof(t, "by hand", 1, c.p, c.view, c.want)
	}
}

// P13.2: of each f, and of views whose primary is each of the nodes, all sets of nodes: those hold that have at least 2 f, and not the primary.
func TestProofOfAllSets(t *testing.T) {
	for _, f := range faults() {
		nodes := nodesElsewhere(f)
		for view := range 2*len(nodes) + 1 {
			primary := view % len(nodes)
			for bits := range 1 << len(nodes) {
				from := subset(nodes, bits)
				want := len(from) >= 2*f && bits>>primary&1 == 0
				if got := Proof(f, proof(view, 1, "b", from...), view+1); got != want {
					t.Fatalf("f %d, View %d, nodes %v: %t", f, view, from, got)
				}
			}
		}
	}
}

// P13.2: of each f, nodes as many as are asked, one fewer and more.
func TestProofOfSoMany(t *testing.T) {
	for _, f := range faults() {
		for view := range 3*f + 2 {
			may := mayProve(f, view)
			for n := range len(may) + 1 {
				for from := range len(may) - n + 1 {
					p := proof(view, 7, "b", may[from:from+n]...)
					holdProof(t, strconv.Itoa(n)+" nodes", f, p, view+1, n >= 2*f)
				}
			}
			if len(may) != 3*f {
				t.Errorf("f %d, view %d: %d nodes may prove", f, view, len(may))
			}
		}
	}
}

// proofsThatHold are some of each f, by few and by many nodes.
func proofsThatHold(f int, do func(p api.Proof, view int)) {
	for view := range 3*f + 3 {
		do(goodProof(f, view, 1), view+1)
		do(scantProof(f, view, 64), view+1)
		do(proof(view, 3, "", mayProve(f, view)[:2*f]...), view+2)
	}
}

// P13.2: a node that is none, at each place, beside the others and instead of one.
func TestProofOfNoNode(t *testing.T) {
	for _, f := range faults() {
		proofsThatHold(f, func(p api.Proof, view int) {
			holdProof(t, "as it is", f, p, view, true)
			for _, n := range outside(f) {
				for at := range len(p.From) + 1 {
					holdProof(t, "beside", f, proof(p.View, p.Seq, p.Body, put(p.From, at, n)...), view, false)
				}
				for at := range p.From {
					holdProof(t, "instead", f, proof(p.View, p.Seq, p.Body, with(p.From, at, n)...), view, false)
				}
			}
		})
	}
}

// P13.2: a node 3 f stands at the end, and a node 0 at the beginning; the ones behind and ahead of them don't.
func TestProofOfFirstAndLastNode(t *testing.T) {
	for _, f := range faults() {
		between := nodesElsewhere(f)[2 : 2*f+1]
		holdProof(t, "node 0", f, proof(1, 1, "b", put(between, 0, 0)...), 2, true)
		holdProof(t, "node -1", f, proof(1, 1, "b", put(between, 0, -1)...), 2, false)
		holdProof(t, "node 3 f", f, proof(1, 1, "b", append(slices.Clone(between), 3*f)...), 2, true)
		holdProof(t, "node 3 f + 1", f, proof(1, 1, "b", append(slices.Clone(between), 3*f+1)...), 2, false)
	}
}

// P13.2: nodes that don't rise: any of them twice, any two turned, all of them turned.
func TestProofThatDoesNotRise(t *testing.T) {
	for _, f := range faults() {
		proofsThatHold(f, func(p api.Proof, view int) {
			for i, n := range p.From {
				for at := range len(p.From) + 1 {
					holdProof(t, "twice", f, proof(p.View, p.Seq, p.Body, put(p.From, at, n)...), view, false)
				}
				for j := range i {
					holdProof(t, "turned", f, proof(p.View, p.Seq, p.Body, turned(p.From, i, j)...), view, false)
					holdProof(t, "instead", f, proof(p.View, p.Seq, p.Body, with(p.From, j, n)...), view, false)
				}
			}
			back := slices.Clone(p.From)
			slices.Reverse(back)
			holdProof(t, "falling", f, proof(p.View, p.Seq, p.Body, back...), view, false)
			holdProof(t, "all twice", f, proof(p.View, p.Seq, p.Body, append(slices.Clone(p.From), p.From...)...), view, false)
			holdProof(t, "one alone", f, proof(p.View, p.Seq, p.Body, slices.Repeat(p.From[:1], 2*f)...), view, false)
		})
	}
}

// P13.2: the primary among the nodes: at its place, and at each other one; at each place of a list that rises.
func TestProofOfThePrimary(t *testing.T) {
	for _, f := range faults() {
		proofsThatHold(f, func(p api.Proof, view int) {
			primary := primaryElsewhere(f, p.View)
			for at := range len(p.From) + 1 {
				holdProof(t, "beside", f, proof(p.View, p.Seq, p.Body, put(p.From, at, primary)...), view, false)
			}
			for at := range p.From {
				holdProof(t, "instead", f, proof(p.View, p.Seq, p.Body, with(p.From, at, primary)...), view, false)
			}
		})
		all := nodesElsewhere(f)
		for at, n := range all {
			holdProof(t, "all nodes", f, proof(at, 1, "b", all...), greatest, false)
			holdProof(t, "all nodes, View of the next round", f, proof(n+len(all), 1, "b", all...), greatest, false)
			holdProof(t, "all but the primary", f, proof(at, 1, "b", slices.Delete(slices.Clone(all), at, at+1)...), greatest, true)
		}
	}
}

// P13.2: all rows of up to five numbers, of the nodes and the ones beside them; of 7 nodes node 3 is left out.
func TestAllSmallProofs(t *testing.T) {
	for n := range 6 {
		rows(n, []int{-1, 0, 1, 2, 3, 4}, func(from []int) {
			for view := -2; view <= 5; view++ {
				p := api.Proof{View: view, Seq: 1, From: from}
				holdProof(t, "rows of 4 nodes", 1, p, 5, proofElsewhere(1, p, 5))
			}
		})
	}
	for n := range 6 {
		rows(n, []int{-1, 0, 1, 2, 4, 5, 6, 7}, func(from []int) {
			for _, view := range []int{0, 3, 6} {
				p := api.Proof{View: view, Seq: 1, From: from}
				holdProof(t, "rows of 7 nodes", 2, p, 7, proofElsewhere(2, p, 7))
			}
		})
	}
}

// P13.2: a proof's View is below the view: one below, just it, above it; views of more than MaxView, too.
func TestProofView(t *testing.T) {
	for _, f := range faults() {
		for _, view := range append(numbers(), 20, 40) {
			for _, its := range append(numbers(), view, max(view, least+1)-1, min(view, greatest-1)+1) {
				if its < 0 {
					continue
				}
				holdProof(t, "views", f, goodProof(f, its, 1), view, its < view)
				holdProof(t, "views", f, scantProof(f, its, 1), view, its < view)
			}
		}
	}
}

// P13.2: a View below 0 is none: no nodes prove anything there, whichever is left out.
func TestProofViewBelow(t *testing.T) {
	for _, f := range faults() {
		nodes := nodesElsewhere(f)
		for _, its := range []int{least, least + 1, -1 << 32, -14, -13, -10, -7, -4, -3, -2, -1} {
			for _, view := range []int{its + 1, -1, 0, 1, 64, greatest} {
				holdProof(t, "all nodes", f, proof(its, 1, "b", nodes...), view, false)
				for at := range nodes {
					holdProof(t, "all but one", f, proof(its, 1, "b", slices.Delete(slices.Clone(nodes), at, at+1)...), view, false)
				}
			}
		}
	}
}

// P13.2: a proof's Seq is 1 to MaxSeq.
func TestProofSeq(t *testing.T) {
	for _, f := range faults() {
		for seq := -3; seq <= 130; seq++ {
			holdProof(t, "Seq "+strconv.Itoa(seq), f, proof(3, seq, "b", mayProve(f, 3)...), 4, 1 <= seq && seq <= 64)
		}
		for _, seq := range numbers() {
			holdProof(t, "Seq "+strconv.Itoa(seq), f, scantProof(f, 0, seq), 1, 1 <= seq && seq <= 64)
		}
	}
}

// P13.2: a proof's Body doesn't matter.
func TestProofBody(t *testing.T) {
	for _, body := range []string{"", "a", "\x00\xff", strings.Repeat("x", 4096), strings.Repeat("x", 4097), strings.Repeat("x", 1<<20)} {
		holdProof(t, "good", 1, proof(5, 1, body, 0, 2), 6, true)
		holdProof(t, "of the view", 1, proof(5, 1, body, 0, 2), 5, false)
		holdChange(t, "good", 1, change(0, 6, proof(5, 1, body, 0, 2)), true)
	}
}

// P13.2: of an f that may not be nothing holds, not even what would need no nodes and no changes.
func TestHoldsOfNoFaults(t *testing.T) {
	for _, f := range wrongFaults() {
		var proofs []api.Proof
		for _, right := range faults() {
			proofs = append(proofs, goodProof(right, 1, 1), scantProof(right, 0, 64), goodProof(right, 12, 3))
		}
		for n := range 31 {
			var from []int
			for i := range n {
				from = append(from, i)
			}
			proofs = append(proofs, proof(0, 1, "b", from...), proof(n, 1, "b", from...))
		}
		for _, p := range proofs {
			for _, view := range []int{0, 1, 2, 13, 64, greatest} {
				holdProof(t, "no faults", f, p, view, false)
				holdChange(t, "no faults", f, change(0, view, p), false)
			}
		}
		for _, view := range numbers() {
			holdChange(t, "no faults", f, change(0, view), false)
			var l []api.Change
			for n := range 20 {
				holdChanges(t, "no faults", f, l, view, false)
				l = append(l, change(n, view))
			}
		}
		holdChanges(t, "no faults", f, []api.Change{}, 1, false)
	}
}

// P13.2: a change's From is a node.
func TestChangeFrom(t *testing.T) {
	for _, f := range faults() {
		for from := -2; from <= 16; from++ {
			want := 0 <= from && from <= 3*f
			for n := range 4 {
				holdChange(t, "From "+strconv.Itoa(from), f, change(from, 2, goodProofs(f, n, 2)...), want)
			}
		}
		for _, from := range outside(f) {
			holdChange(t, "From "+strconv.Itoa(from), f, change(from, 2), false)
			holdChange(t, "From "+strconv.Itoa(from), f, change(from, 2, goodProof(f, 1, 1)), false)
		}
	}
}

// P13.2: a change's View is 1 to MaxView; with proofs, too, that hold ahead of it.
func TestChangeView(t *testing.T) {
	for _, f := range faults() {
		for view := -3; view <= 70; view++ {
			want := 1 <= view && view <= 64
			holdChange(t, "View "+strconv.Itoa(view), f, change(3*f, view), want)
			holdChange(t, "View "+strconv.Itoa(view), f, change(0, view, goodProof(f, 0, 1)), want)
			if view > 0 {
				holdChange(t, "View "+strconv.Itoa(view), f, change(1, view, goodProofs(f, 9, view)...), want)
			}
		}
		for _, view := range numbers() {
			want := 1 <= view && view <= 64
			holdChange(t, "View "+strconv.Itoa(view), f, change(0, view), want)
			holdChange(t, "View "+strconv.Itoa(view), f, api.Change{View: view, Proofs: []api.Proof{}}, want)
			holdChange(t, "View "+strconv.Itoa(view), f, change(0, view, goodProof(f, 0, 64)), want)
		}
	}
}

// P13.2: a change has any number of proofs, as long as their Seqs rise: no proofs, one, several, as many as there are Seqs.
func TestChangeOfSoManyProofs(t *testing.T) {
	for _, f := range faults() {
		holdChange(t, "nil", f, api.Change{From: 1, View: 2, Proofs: nil}, true)
		holdChange(t, "empty", f, api.Change{From: 1, View: 2, Proofs: []api.Proof{}}, true)
		for n := range 65 {
			for _, view := range []int{1, 2, 13, 64} {
				holdChange(t, strconv.Itoa(n)+" proofs", f, change(n%(3*f+1), view, goodProofs(f, n, view)...), true)
			}
		}
		all := goodProofs(f, 64, 5)
		for _, p := range []api.Proof{goodProof(f, 1, 64), goodProof(f, 1, 65), goodProof(f, 1, 1), all[63]} {
			holdChange(t, "65 proofs", f, change(0, 5, append(slices.Clone(all), p)...), false)
		}
	}
}

// P13.2: Seqs that rise, stand still and fall, at each place; Views of proofs needn't rise.
func TestChangeSeqs(t *testing.T) {
	for _, f := range faults() {
		for n := 2; n <= 7; n++ {
			good := goodProofs(f, n, 4)
			holdChange(t, "rising", f, change(0, 4, good...), true)
			for i, p := range good {
				for at := range n + 1 {
					holdChange(t, "twice", f, change(0, 4, put(good, at, p)...), false)
				}
				again := p
				again.Body, again.View = "c", (p.View+1)%4
				again.From = mayProve(f, again.View)
				holdChange(t, "another of that Seq instead", f, change(0, 4, with(good, i, again)...), true)
				holdChange(t, "another of that Seq behind", f, change(0, 4, put(good, i+1, again)...), false)
				for j := range i {
					holdChange(t, "turned", f, change(0, 4, turned(good, i, j)...), false)
				}
			}
		}
		for _, c := range []struct {
			a, b int
			want bool
		}{{1, 2, true}, {1, 64, true}, {63, 64, true}, {1, 1, false}, {64, 64, false}, {2, 1, false}, {64, 1, false}, {64, 63, false}, {0, 1, false}, {64, 65, false}, {-1, 1, false}} {
			holdChange(t, "two", f, change(0, 4, scantProof(f, 3, c.a), scantProof(f, 0, c.b)), c.want)
		}
	}
}

// P13.2: one proof alone that doesn't hold ahead of the change's View, at each place.
func TestChangeOfABadProof(t *testing.T) {
	for _, f := range faults() {
		for _, view := range []int{1, 3, 14, 64} {
			for n := 1; n <= 5; n++ {
				good := goodProofs(f, n, view)
				holdChange(t, "good", f, change(f, view, good...), true)
				for at, p := range good {
					for why, bad := range badProofs(f, view, p.Seq) {
						holdProof(t, why, f, bad, view, false)
						holdChange(t, why, f, change(f, view, with(good, at, bad)...), false)
					}
				}
			}
		}
	}
}

// quorums are lists of nodes: all sets of those that are enough, of few nodes, and of many those that stand side by side.
func quorums(f int) [][]int {
	var l [][]int
	nodes := nodesElsewhere(f)
	for n := 2*f + 1; n <= len(nodes); n++ {
		for from := range len(nodes) - n + 1 {
			l = append(l, nodes[from:from+n])
		}
	}
	if f > 2 {
		return l
	}
	for bits := range 1 << len(nodes) {
		if set := subset(nodes, bits); len(set) > 2*f {
			l = append(l, set)
		}
	}
	return l
}

// P13.2: changes are a quorum, or more: just one, one more, all, one fewer, none; of nil and empty ones, too.
func TestChangesOfSoMany(t *testing.T) {
	for i, enough := range []int{3, 5, 7, 9} {
		f := i + 1
		for _, view := range []int{1, 2, 5, 64} {
			all := goodChanges(f, view, nodesElsewhere(f)...)
			for n := range len(all) + 1 {
				for from := range len(all) - n + 1 {
					holdChanges(t, strconv.Itoa(n)+" changes", f, all[from:from+n], view, n >= enough)
				}
			}
			holdChanges(t, "nil", f, nil, view, false)
			holdChanges(t, "empty", f, []api.Change{}, view, false)
			holdChanges(t, "one more than there are", f, append(slices.Clone(all), change(3*f+1, view)), view, false)
			holdChanges(t, "one more, of a node that is there", f, append(slices.Clone(all), all[3*f]), view, false)
			holdChanges(t, "one fewer, and one of them twice", f, slices.Insert(slices.Clone(all[:2*f]), 1, all[1]), view, false)
		}
		for _, q := range quorums(f) {
			holdChanges(t, "a quorum", f, goodChanges(f, 3, q...), 3, true)
			var bare []api.Change
			for _, n := range q {
				bare = append(bare, change(n, 3))
			}
			holdChanges(t, "a quorum without proofs", f, bare, 3, true)
		}
	}
}

// P13.2: changes' nodes rise: none is there twice, no two are turned.
func TestChangesThatDoNotRise(t *testing.T) {
	for _, f := range faults() {
		for _, q := range quorums(f) {
			good := goodChanges(f, 2, q...)
			for i, c := range good {
				for at := range len(good) + 1 {
					holdChanges(t, "twice", f, put(good, at, c), 2, false)
					holdChanges(t, "twice, once without proofs", f, put(good, at, change(c.From, 2)), 2, false)
				}
				for j := range i {
					holdChanges(t, "turned", f, turned(good, i, j), 2, false)
				}
			}
			back := slices.Clone(good)
			slices.Reverse(back)
			holdChanges(t, "falling", f, back, 2, false)
			holdChanges(t, "one alone", f, slices.Repeat(good[:1], 2*f+1), 2, false)
		}
	}
}

// P13.2: changes hold for the view that they all want, and for no other; it is 1 to MaxView.
func TestChangesView(t *testing.T) {
	for _, f := range faults() {
		nodes := nodesElsewhere(f)
		for view := -2; view <= 67; view++ {
			var bare []api.Change
			for _, n := range nodes {
				bare = append(bare, change(n, view))
			}
			for asked := -3; asked <= 68; asked++ {
				holdChanges(t, "asked for "+strconv.Itoa(asked), f, bare, asked, asked == view && 1 <= view && view <= 64)
			}
			for _, asked := range numbers() {
				holdChanges(t, "asked for "+strconv.Itoa(asked), f, bare, asked, asked == view && 1 <= view && view <= 64)
			}
		}
		for _, view := range numbers() {
			var bare []api.Change
			for _, n := range nodes {
				bare = append(bare, change(n, view))
			}
			holdChanges(t, "View "+strconv.Itoa(view), f, bare, view, 1 <= view && view <= 64)
		}
	}
}

// P13.2: one change alone of another View, at each place, though it holds for itself.
func TestChangesOfAnotherView(t *testing.T) {
	for _, f := range faults() {
		for _, q := range quorums(f) {
			good := goodChanges(f, 3, q...)
			for at, c := range good {
				for _, view := range []int{1, 2, 4, 64} {
					other := change(c.From, view, goodProof(f, 0, 1))
					holdChange(t, "for itself", f, other, true)
					holdChanges(t, "another View", f, with(good, at, other), 3, false)
					holdChanges(t, "another View", f, with(good, at, other), view, false)
				}
			}
		}
	}
}

// badChanges are some of a view that don't hold, each by one thing alone, of a node that is between its neighbours.
func badChanges(f, from, view int) map[string]api.Change {
	bad := map[string]api.Change{
		"Seqs that stand still": change(from, view, goodProof(f, 0, 2), goodProof(f, 0, 2)),
		"Seqs that fall":        change(from, view, goodProof(f, 0, 2), goodProof(f, 0, 1)),
	}
	for why, p := range badProofs(f, view, 7) {
		bad["one proof "+why] = change(from, view, p)
		bad["a last proof "+why] = change(from, view, append(goodProofs(f, 2, view), p)...)
	}
	return bad
}

// P13.2: one change alone that doesn't hold, at each place; of changes that would be enough without it, too.
func TestChangesOfABadChange(t *testing.T) {
	for _, f := range faults() {
		for _, q := range quorums(f) {
			good := goodChanges(f, 2, q...)
			holdChanges(t, "good", f, good, 2, true)
			for at, n := range q {
				for why, bad := range badChanges(f, n, 2) {
					holdChange(t, why, f, bad, false)
					holdChanges(t, why, f, with(good, at, bad), 2, false)
				}
			}
			for _, n := range outside(f) {
				holdChanges(t, "a node below 0", f, put(good, 0, change(min(n, -1), 2)), 2, false)
				holdChanges(t, "no such node", f, append(slices.Clone(good), change(max(n, 3*f+1), 2)), 2, false)
				holdChanges(t, "a node below 0 instead", f, with(good, 0, change(min(n, -1), 2)), 2, false)
				holdChanges(t, "no such node instead", f, with(good, len(good)-1, change(max(n, 3*f+1), 2)), 2, false)
			}
		}
	}
}

// P13.2: of 4 nodes, all rows of up to four changes of some right and wrong ones.
func TestAllSmallChanges(t *testing.T) {
	var of []api.Change
	for from := -1; from <= 4; from++ {
		of = append(of, change(from, 2), change(from, 1), change(from, 2, proof(1, 1, "b", 0, 2)), change(from, 2, proof(1, 1, "b", 0, 1)))
	}
	held := 0
	for n := range 5 {
		rows(n, of, func(l []api.Change) {
			want := changesElsewhere(1, l, 2)
			holdChanges(t, "rows", 1, l, 2, want)
			if want {
				held++
			}
		})
	}
	// Four rows of three nodes, each with two changes that hold, and one of four.
	if held != 4*8+16 {
		t.Errorf("%d rows hold", held)
	}
}

// P13.2, P1: every number of a proof, of a change and of changes, each as small and as great as it can be, and together.
func TestAllNumbers(t *testing.T) {
	for _, f := range append(faults(), wrongFaults()...) {
		for _, a := range numbers() {
			for _, b := range numbers() {
				for _, p := range []api.Proof{
					proof(a, b, "b", 0, 2), proof(b, a, "", 2, 5, 7, 8, 9, 10, 11, 12), proof(3, 1, "b", a, b), proof(a, 1, "b", 1, b), {View: a, Seq: b},
				} {
					for _, view := range []int{a, b, least, 0, 4, greatest} {
						holdProof(t, "numbers", f, p, view, proofElsewhere(f, p, view))
					}
					for _, c := range []api.Change{change(a, b, p), change(b, a, p, p), change(0, b, goodProof(1, 0, 1), p)} {
						holdChange(t, "numbers", f, c, changeElsewhere(f, c))
						l := []api.Change{c, change(1, b), change(2, b), change(3, a)}
						holdChanges(t, "numbers", f, l, b, changesElsewhere(f, l, b))
					}
				}
			}
		}
	}
}

// spoilt is a proof with one thing of it changed, from a random source.
func spoilt(r *rand.Rand, f int, p api.Proof) api.Proof {
	p = cloneProof(p)
	n := []int{-1, 0, 1, 3 * f, 3*f + 1, 64, 65, r.Intn(70)}[r.Intn(8)]
	switch r.Intn(6) {
	case 0:
		p.View = n
	case 1:
		p.Seq = n
	case 2:
		p.From = put(p.From, r.Intn(len(p.From)+1), n)
	case 3:
		p.From = p.From[:r.Intn(len(p.From)+1)]
	case 4:
		r.Shuffle(len(p.From), func(i, j int) { p.From[i], p.From[j] = p.From[j], p.From[i] })
	}
	return p
}

// spoiltChanges are changes with some things of them changed, from a random source.
func spoiltChanges(r *rand.Rand, f, view int, l []api.Change) []api.Change {
	l = cloneAll(l, cloneChange)
	at := r.Intn(len(l))
	switch c := &l[at]; r.Intn(6) {
	case 0:
		c.From = r.Intn(16) - 1
	case 1:
		c.View = view + r.Intn(3) - 1
	case 2:
		for i, p := range c.Proofs {
			if r.Intn(3) == 0 {
				c.Proofs[i] = spoilt(r, f, p)
			}
		}
	case 3:
		r.Shuffle(len(c.Proofs), func(i, j int) { c.Proofs[i], c.Proofs[j] = c.Proofs[j], c.Proofs[i] })
	case 4:
		l = slices.Delete(l, at, at+1)
	}
	return l
}

// P13.2: longer changes, from a fixed seed, some things of them changed.
func TestLongerChanges(t *testing.T) {
	r := rand.New(rand.NewSource(13))
	held := 0
	const all = 20000
	for range all {
		f, view := 1+r.Intn(4), 1+r.Intn(64)
		var l []api.Change
		for _, n := range nodesElsewhere(f) {
			if r.Intn(8) > 0 {
				l = append(l, change(n, view, goodProofs(f, r.Intn(5), view)...))
			}
		}
		for times := r.Intn(3); times > 0 && len(l) > 0; times-- {
			l = spoiltChanges(r, f, view, l)
		}
		for _, c := range l {
			for _, p := range c.Proofs {
				holdProof(t, "longer", f, p, c.View, proofElsewhere(f, p, c.View))
			}
			holdChange(t, "longer", f, c, changeElsewhere(f, c))
		}
		want := changesElsewhere(f, l, view)
		holdChanges(t, "longer", f, l, view, want)
		if want {
			held++
		}
	}
	if held < all/5 || held > all*4/5 {
		t.Errorf("%d of %d hold: too few, or too many, to tell much", held, all)
	}
}

// P13.3: proofs conflict if they are of one View and Seq, and of two bodies, whichever comes first.
func TestConflict(t *testing.T) {
	for _, c := range []struct {
		a, b api.Proof
		want bool
	}{
		{proof(1, 2, "a", 0, 2), proof(1, 2, "b", 0, 3), true},
		{proof(1, 2, "a", 0, 2), proof(1, 2, "a", 0, 3), false},
		{proof(1, 2, "a", 0, 2), proof(1, 2, "a", 0, 2), false},
		{proof(1, 2, "a", 0, 2), proof(3, 2, "b", 0, 2), false},
		{proof(1, 2, "a", 0, 2), proof(1, 3, "b", 0, 2), false},
		{proof(1, 2, "a", 0, 2), proof(2, 1, "b", 0, 2), false},
		{proof(1, 2, "a", 0, 2), proof(3, 3, "b", 0, 2), false},
		{proof(1, 2, "a", 0, 2), proof(3, 2, "a", 0, 2), false},
		{proof(1, 2, "a", 0, 2), proof(1, 3, "a", 0, 2), false},
		{proof(1, 2, "", 0, 2), proof(1, 2, "a", 0, 2), true},
		{proof(1, 2, "", 0, 2), proof(1, 2, "", 0, 2), false},
		{proof(1, 2, "a"), proof(1, 2, "A"), true},
		{proof(1, 2, "a"), proof(1, 2, "a\x00"), true},
		{proof(1, 2, "é"), proof(1, 2, "e\u0301"), true},
		{proof(1, 2, "\xff"), proof(1, 2, "\xfe"), true},
		{proof(1, 2, strings.Repeat("x", 5000)), proof(1, 2, strings.Repeat("x", 5001)), true},
		{proof(1, 2, strings.Repeat("x", 5000)), proof(1, 2, strings.Repeat("x", 5000)), false},
		{api.Proof{}, api.Proof{}, false},
		{api.Proof{}, proof(0, 0, "a"), true},
	} {
		if got := Conflict(c.a, c.b); got != c.want {
			t.Errorf("Conflict(%s, %s) = %t", show(c.a), show(c.b), got)
		}
		if got := Conflict(c.b, c.a); got != c.want {
			t.Errorf("Conflict(%s, %s) = %t", show(c.b), show(c.a), got)
		}
	}
}

// P13.3, P1: all pairs of Views, Seqs and bodies; whether the proofs hold doesn't matter, nor who says them.
func TestConflictOfAll(t *testing.T) {
	few := []int{least, -65, -1, 0, 1, 2, 64, 65, greatest}
	var l []api.Proof
	for i, view := range few {
		for j, seq := range few {
			for k, body := range []string{"", "a", "b"} {
				l = append(l, proof(view, seq, body, few[:(i+j+k)%5]...))
			}
		}
	}
	for i, a := range l {
		for j, b := range l {
			// Proofs of one View and Seq stand side by side, three and three.
			want := i != j && i/3 == j/3
			if Conflict(a, b) != want {
				t.Fatalf("Conflict(%s, %s) isn't %t", show(a), show(b), want)
			}
		}
	}
}

// kept tells whether changes are as their clones.
func kept(l, clones []api.Change) bool { return slices.EqualFunc(l, clones, sameChange) }

// P13.4, R2: what is handed in stays as it is, and what lies behind its end does, too; and nothing of it is kept.
func TestHandedInStays(t *testing.T) {
	for _, f := range faults() {
		lists := [][]api.Change{nil, {}, goodChanges(f, 3, nodesElsewhere(f)...)}
		for why, bad := range badChanges(f, f, 3) {
			holdChange(t, why, f, bad, false)
			lists = append(lists, with(lists[2], f, bad))
		}
		back := slices.Clone(lists[2])
		slices.Reverse(back)
		for _, whole := range append(lists, back) {
			clones := cloneAll(whole, cloneChange)
			for n := range len(whole) + 1 {
				l := whole[:n]
				first := Changes(f, l, 3)
				for _, c := range l {
					Change(f, c)
					c.Proofs = c.Proofs[:len(c.Proofs)/2]
					Change(f, c)
					for _, p := range c.Proofs {
						Proof(f, p, 3)
						p.From = p.From[:len(p.From)/2]
						Proof(f, p, 3)
						Conflict(p, c.Proofs[0])
					}
				}
				if !kept(whole, clones) {
					t.Fatalf("%s became %s", show(clones), show(whole))
				}
				if Changes(f, l, 3) != first || Changes(f, clones[:n], 3) != first {
					t.Fatalf("Changes of %s isn't %t any more", show(l), first)
				}
			}
		}
	}
}

// P13.4, R2: what was handed in may be changed then: what is told is of what it is now.
func TestNothingIsKept(t *testing.T) {
	for _, f := range faults() {
		l := goodChanges(f, 3, nodesElsewhere(f)...)
		p := &l[3*f].Proofs[0]
		for range 3 {
			holdProof(t, "as it was", f, *p, 3, true)
			holdChange(t, "as it was", f, l[3*f], true)
			holdChanges(t, "as it was", f, l, 3, true)
			was := p.From[0]
			p.From[0] = -1
			holdProof(t, "changed", f, *p, 3, false)
			holdChange(t, "changed", f, l[3*f], false)
			holdChanges(t, "changed", f, l, 3, false)
			p.From[0] = was
		}
	}
}

// common are how many of the nodes that say one thing say the other.
func common(a, b api.Proof) []int {
	return slices.DeleteFunc(slices.Clone(a.From), func(n int) bool { return !slices.Contains(b.From, n) })
}

// proofsOf are all proofs of a View and a Seq that hold; of 13 nodes only those of just as many nodes as are asked, and of all.
func proofsOf(f, view int, body string) []api.Proof {
	var l []api.Proof
	nodes := nodesElsewhere(f)
	for bits := range 1 << len(nodes) {
		p := proof(view, 1, body, subset(nodes, bits)...)
		if Proof(f, p, view+1) && (f < 4 || len(p.From) == 2*f || len(p.From) == 3*f) {
			l = append(l, p)
		}
	}
	return l
}

// P13.5: two proofs that conflict and hold have at least f nodes in common, none of them the primary; and some have no more than f.
func TestConflictsHaveSomeInCommon(t *testing.T) {
	for _, f := range faults() {
		for _, view := range []int{0, 1, 3 * f, 3*f + 1} {
			primary, err := Primary(f, view)
			as, bs := proofsOf(f, view, "a"), proofsOf(f, view, "b")
			if err != nil || len(as) == 0 || len(as) != len(bs) {
				t.Fatalf("f %d, view %d: %d and %d proofs, %v", f, view, len(as), len(bs), err)
			}
			fewest := 3*f + 1
			for _, a := range as {
				for _, b := range bs {
					if !Conflict(a, b) {
						t.Fatalf("%s and %s don't conflict", show(a), show(b))
					}
					both := common(a, b)
					if len(both) < f || slices.Contains(both, primary) {
						t.Fatalf("f %d: %s and %s have %v in common", f, show(a), show(b), both)
					}
					fewest = min(fewest, len(both))
				}
			}
			if fewest != f {
				t.Errorf("f %d, view %d: none have fewer than %d in common", f, view, fewest)
			}
		}
	}
}

// P13.5: if no more than f nodes say two things, whoever they are, two proofs that conflict and hold tell just these, f of them.
func TestConflictsTellWhoSaysTwoThings(t *testing.T) {
	for _, f := range faults()[:2] {
		nodes := nodesElsewhere(f)
		told := 0
		for bits := range 1 << len(nodes) {
			two := subset(nodes, bits)
			if len(two) > f {
				continue
			}
			for _, a := range proofsOf(f, 2, "a") {
				for _, b := range proofsOf(f, 2, "b") {
					both := common(a, b)
					if slices.ContainsFunc(both, func(n int) bool { return !slices.Contains(two, n) }) {
						continue
					}
					if !slices.Equal(both, two) || len(two) != f || slices.Contains(two, 2) {
						t.Fatalf("f %d: of %v that say two things %s and %s tell %v", f, two, show(a), show(b), both)
					}
					told++
				}
			}
		}
		if told == 0 {
			t.Errorf("f %d: nobody is told", f)
		}
	}
}

// P13.5: changes that hold do so with one more that does, of a greater node.
func TestChangesWithOneMore(t *testing.T) {
	for _, f := range faults() {
		more := 0
		for _, q := range quorums(f) {
			good := goodChanges(f, 2, q...)
			if !Changes(f, good, 2) {
				t.Fatalf("%s don't hold", show(good))
			}
			for n := q[len(q)-1] + 1; n <= 3*f; n++ {
				for _, c := range []api.Change{change(n, 2), change(n, 2, goodProofs(f, n, 2)...)} {
					if !Change(f, c) || !Changes(f, append(slices.Clone(good), c), 2) {
						t.Fatalf("f %d: nodes %v, and %s, don't hold", f, q, show(c))
					}
					more++
				}
			}
		}
		if more == 0 {
			t.Errorf("f %d: there was never one more", f)
		}
	}
}

// P1: many nodes, proofs and changes: each call ends, and soon.
func TestMany(t *testing.T) {
	const many = 1 << 20
	nodes := make([]int, many)
	changes := make([]api.Change, many)
	for i := range many {
		nodes[i] = i
		changes[i] = change(i, 1)
	}
	for _, f := range faults() {
		for _, from := range [][]int{nodes, nodes[1:], make([]int, many), slices.Repeat([]int{3 * f}, many)} {
			p := proof(0, 1, "b", from...)
			holdProof(t, "many nodes", f, p, 1, false)
			holdChange(t, "many nodes", f, change(0, 1, p), false)
		}
		proofs := slices.Repeat([]api.Proof{goodProof(f, 0, 1)}, many)
		if Change(f, change(0, 1, proofs...)) {
			t.Errorf("f %d: many proofs of one Seq hold", f)
		}
		for i := range proofs {
			proofs[i].Seq = i + 1
		}
		if Change(f, change(0, 1, proofs...)) {
			t.Errorf("f %d: many proofs hold", f)
		}
		if Changes(f, changes, 1) || Changes(f, changes, 0) {
			t.Errorf("f %d: many changes hold", f)
		}
	}
}
