package cert

import (
	"fmt"
	"math"
	"slices"

	"becket/api"
)

const (
	least    = math.MinInt
	greatest = math.MaxInt
)

// The chapter once more, with the limits written out: what rises is what stands as it would if it were sorted, each once.

func sortedOnce(l []int) []int { return slices.Compact(slices.Sorted(slices.Values(l))) }

// nodesElsewhere are the nodes; of an f that may not be none.
func nodesElsewhere(f int) []int {
	if f < 1 || f > 4 {
		return nil
	}
	return []int{0, 1, 2, 3, 4, 5, 6, 7, 8, 9, 10, 11, 12}[:3*f+1]
}

// primaryElsewhere is a view's primary; -1, if it has none.
func primaryElsewhere(f, view int) int {
	n := len(nodesElsewhere(f))
	if n == 0 || view < 0 {
		return -1
	}
	return view - view/n*n
}

// mayProve are all nodes but a view's primary; none, if it has none.
func mayProve(f, view int) []int {
	primary := primaryElsewhere(f, view)
	if primary < 0 {
		return nil
	}
	return slices.DeleteFunc(slices.Clone(nodesElsewhere(f)), func(n int) bool { return n == primary })
}

func proofElsewhere(f int, p api.Proof, view int) bool {
	may := mayProve(f, p.View)
	if may == nil || p.View >= view || p.Seq <= 0 || p.Seq >= 65 {
		return false
	}
	named := slices.DeleteFunc(may, func(n int) bool { return !slices.Contains(p.From, n) })
	return len(named) >= 2*f && slices.Equal(named, p.From)
}

func changeElsewhere(f int, c api.Change) bool {
	var seqs []int
	for _, p := range c.Proofs {
		if !proofElsewhere(f, p, c.View) {
			return false
		}
		seqs = append(seqs, p.Seq)
	}
	return slices.Contains(nodesElsewhere(f), c.From) && c.View > 0 && c.View < 65 && slices.Equal(sortedOnce(seqs), seqs)
}

func changesElsewhere(f int, l []api.Change, view int) bool {
	var from []int
	for _, c := range l {
		if !changeElsewhere(f, c) || c.View != view {
			return false
		}
		from = append(from, c.From)
	}
	return len(nodesElsewhere(f)) > 0 && len(l) > 2*f && slices.Equal(sortedOnce(from), from)
}

func show(x any) string {
	s := fmt.Sprintf("%+v", x)
	return s[:min(len(s), 500)]
}

func proof(view, seq int, body string, from ...int) api.Proof {
	return api.Proof{View: view, Seq: seq, Body: body, From: from}
}

func change(from, view int, proofs ...api.Proof) api.Change {
	return api.Change{From: from, View: view, Proofs: proofs}
}

// faults are all that f may be.
func faults() []int { return []int{1, 2, 3, 4} }

// wrongFaults are some that f may not be; of 6148914691236517205 3 f + 1 wraps round to 0.
func wrongFaults() []int {
	return []int{
		least, least + 1, -1 << 32, -6148914691236517205, -13, -5, -4, -3, -2, -1, 0, 5, 6, 7, 13, 100, 1<<32 + 1,
		greatest / 3, greatest/3 + 1, greatest / 2, greatest/2 + 1, 6148914691236517205, 6148914691236517206, greatest - 1, greatest,
	}
}

// numbers are edges, and numbers as small and as great as they can be.
func numbers() []int {
	return []int{
		least, least + 1, -1 << 32, -65, -64, -14, -13, -5, -4, -2, -1, 0, 1, 2, 3, 4, 5, 6, 7, 8, 9, 10, 11, 12, 13, 14, 15,
		62, 63, 64, 65, 66, 127, 128, 1 << 32, 1<<32 + 1, greatest - 1, greatest,
	}
}

// outside are numbers that are no node of f faults.
func outside(f int) []int {
	return []int{least, least + 1, -1 << 32, -13, -2, -1, 3*f + 1, 3*f + 2, 13, 1 << 32, greatest - 1, greatest}
}

// subset are those of l whose bits are set.
func subset(l []int, bits int) []int {
	var out []int
	for i, n := range l {
		if bits>>i&1 == 1 {
			out = append(out, n)
		}
	}
	return out
}

// rows are all rows of n of these.
func rows[T any](n int, of []T, do func([]T)) {
	l := make([]T, n)
	var fill func(int)
	fill = func(i int) {
		if i == n {
			do(l)
			return
		}
		for _, x := range of {
			l[i] = x
			fill(i + 1)
		}
	}
	fill(0)
}

// with is l with x instead of what stands at a place.
func with[T any](l []T, at int, x T) []T {
	out := slices.Clone(l)
	out[at] = x
	return out
}

// put is l with x ahead of what stands at a place, or at its end.
func put[T any](l []T, at int, x T) []T { return slices.Insert(slices.Clone(l), at, x) }

// turned is l with two of it turned.
func turned[T any](l []T, i, j int) []T {
	out := slices.Clone(l)
	out[i], out[j] = out[j], out[i]
	return out
}

// goodProof is one that holds ahead of all views above its own, by as many nodes as there may be.
func goodProof(f, view, seq int) api.Proof { return proof(view, seq, "b", mayProve(f, view)...) }

// scantProof is one that holds by just as many nodes as are asked.
func scantProof(f, view, seq int) api.Proof {
	return proof(view, seq, "b", mayProve(f, view)[f:]...)
}

// goodProofs are n that hold ahead of a view, of Seqs from 1 on, some left out where there is room.
func goodProofs(f, n, view int) []api.Proof {
	step := max(1, min(3, 64/max(n, 1)))
	var l []api.Proof
	for i := range n {
		p := goodProof(f, i%view, 1+i*step)
		if i%2 == 1 {
			p = scantProof(f, view-1-i%view, 1+i*step)
		}
		l = append(l, p)
	}
	return l
}

// goodChanges are those of these nodes; of each one as many proofs as its number.
func goodChanges(f, view int, from ...int) []api.Change {
	var l []api.Change
	for _, n := range from {
		l = append(l, change(n, view, goodProofs(f, n, view)...))
	}
	return l
}

// badProofs are some that don't hold ahead of a view, each by one thing alone.
func badProofs(f, view, seq int) map[string]api.Proof {
	good := scantProof(f, view-1, seq)
	primary := primaryElsewhere(f, view-1)
	return map[string]api.Proof{
		"of the view":        scantProof(f, view, seq),
		"of a later view":    scantProof(f, view+1, seq),
		"of a View below":    proof(-1, seq, "b", nodesElsewhere(f)[:2*f]...),
		"of Seq 0":           scantProof(f, view-1, 0),
		"of Seq 65":          scantProof(f, view-1, 65),
		"of one too few":     proof(view-1, seq, "b", good.From[1:]...),
		"of no nodes":        proof(view-1, seq, "b"),
		"one of them twice":  proof(view-1, seq, "b", put(good.From, 1, good.From[1])...),
		"two of them turned": proof(view-1, seq, "b", turned(good.From, 0, 1)...),
		"a node below 0":     proof(view-1, seq, "b", put(good.From, 0, -1)...),
		"no such node":       proof(view-1, seq, "b", append(slices.Clone(good.From), 3*f+1)...),
		"the primary":        proof(view-1, seq, "b", sortedOnce(append(slices.Clone(good.From), primary))...),
	}
}

func cloneProof(p api.Proof) api.Proof {
	p.From = slices.Clone(p.From)
	return p
}

func cloneChange(c api.Change) api.Change {
	c.Proofs = cloneAll(c.Proofs, cloneProof)
	return c
}

// cloneAll is a list of clones; nil stays nil.
func cloneAll[T any](l []T, clone func(T) T) []T {
	out := slices.Clone(l)
	for i, x := range out {
		out[i] = clone(x)
	}
	return out
}

func sameProof(a, b api.Proof) bool {
	return a.View == b.View && a.Seq == b.Seq && a.Body == b.Body && (a.From == nil) == (b.From == nil) && slices.Equal(a.From, b.From)
}

func sameChange(a, b api.Change) bool {
	return a.From == b.From && a.View == b.View && (a.Proofs == nil) == (b.Proofs == nil) && slices.EqualFunc(a.Proofs, b.Proofs, sameProof)
}
