package msg

import (
	"bytes"
	"encoding/binary"
	"math"
	"math/rand"
	"slices"
	"strconv"
	"testing"

	"becket/api"
)

func proof(view, seq int, body string, from ...int) api.Proof {
	return api.Proof{View: view, Seq: seq, Body: body, From: from}
}

func change(from, view int, proofs ...api.Proof) api.Change {
	return api.Change{From: from, View: view, Proofs: proofs}
}

// allBytes is a text that has every byte there is.
func allBytes() string {
	var b []byte
	for x := range 256 {
		b = append(b, byte(x))
	}
	return string(b)
}

// rising are nodes, from 0 on.
func rising(n int) []int {
	var l []int
	for i := range n {
		l = append(l, i)
	}
	return l
}

// bodies are texts of no bytes up to MaxText, characters or not.
func bodies() []string {
	return []string{"", "a", "\x00", "\xff\x80", "é", allBytes(), text("x", 127), text("x", 128), text("\x80", 4095), text("x", 4096)}
}

// someProofs are proofs with and without nodes and bytes, and of the edges of their numbers.
func someProofs() []api.Proof {
	return []api.Proof{
		proof(0, 0, ""), proof(64, 64, "b", 12), proof(1, 2, "b", 0, 3), proof(2, 1, allBytes(), rising(13)...),
		proof(1, 2, "b", 0, 3), proof(3, 3, "", slices.Repeat([]int{12}, 13)...), proof(0, 64, "\x00", 3, 2, 1),
	}
}

// manyProofs are n proofs, all of them different.
func manyProofs(n int, body string) []api.Proof {
	var l []api.Proof
	for i := range n {
		l = append(l, proof(i%65, 64-i%65, strconv.Itoa(i)+body, rising(i%14)...))
	}
	return l
}

// manyChanges are n changes of some proofs each.
func manyChanges(n, proofs int, body string) []api.Change {
	var l []api.Change
	for i := range n {
		l = append(l, change(i%13, 64-i%65, manyProofs(proofs, body)...))
	}
	return l
}

// plain are messages of each kind, of no proofs and changes.
func plain() []api.Msg {
	var l []api.Msg
	for kind := 1; kind <= 7; kind++ {
		l = append(l, api.Msg{Kind: kind}, api.Msg{Kind: kind, From: 12, View: 64, Seq: 64, Body: "a"})
		l = append(l, api.Msg{Kind: kind, From: 2, View: 1, Seq: 3, Body: allBytes(), Proofs: []api.Proof{}, Changes: []api.Change{}})
	}
	return append(l, api.Msg{Kind: api.MsgReply, Seq: 65}, api.Msg{Kind: api.MsgReply, Seq: 128}, api.Msg{Kind: api.MsgReply, From: 3, View: 2, Seq: 1000, Body: "\x00"})
}

// listed are messages with proofs, or with changes.
func listed() []api.Msg {
	l := []api.Msg{
		{Kind: api.MsgChange, From: 1, View: 2, Proofs: someProofs()},
		{Kind: api.MsgChange, From: 12, View: 64, Seq: 64, Body: "a", Proofs: slices.Repeat(someProofs()[2:3], 3)},
		{Kind: api.MsgNew, From: 2, View: 2, Changes: []api.Change{change(1, 2, proof(1, 2, "b", 0, 3))}},
		{Kind: api.MsgNew, From: 2, View: 2, Body: "a", Changes: []api.Change{change(0, 0), change(12, 64, someProofs()...), change(1, 2), change(1, 2)}},
		{Kind: api.MsgNew, From: 12, View: 64, Changes: make([]api.Change, 13)},
		{Kind: api.MsgChange, From: 12, View: 64, Proofs: make([]api.Proof, 64)},
		{Kind: api.MsgChange, Proofs: manyProofs(63, "")},
		{Kind: api.MsgChange, Proofs: manyProofs(64, "")},
		{Kind: api.MsgNew, Changes: manyChanges(12, 1, "")},
		{Kind: api.MsgNew, Changes: manyChanges(13, 3, "b")},
		{Kind: api.MsgNew, Changes: manyChanges(1, 64, "")},
	}
	for _, p := range someProofs() {
		l = append(l, api.Msg{Kind: api.MsgChange, Proofs: []api.Proof{p}}, api.Msg{Kind: api.MsgNew, Changes: []api.Change{change(3, 4, p)}})
	}
	return l
}

// small are messages of not many bytes.
func small() []api.Msg { return append(plain(), listed()...) }

// full are messages of as much of everything as there may be.
func full() []api.Msg {
	most := slices.Repeat([]api.Proof{proof(64, 64, text("b", 4096), rising(13)...)}, 64)
	return []api.Msg{
		{Kind: api.MsgChange, From: 12, View: 64, Seq: 64, Body: text("a", 4096), Proofs: most},
		{Kind: api.MsgNew, From: 12, View: 64, Seq: 64, Body: text("a", 4096), Changes: slices.Repeat([]api.Change{change(12, 64, most...)}, 13)},
	}
}

// all are messages, of many bytes, too.
func all() []api.Msg {
	l := append(small(), full()...)
	for _, body := range bodies() {
		for kind := 1; kind <= 7; kind++ {
			l = append(l, api.Msg{Kind: kind, From: kind, View: kind, Seq: kind, Body: body})
		}
		l = append(l, api.Msg{Kind: api.MsgChange, Body: body, Proofs: []api.Proof{proof(1, 2, body, 0), proof(1, 3, body)}})
		l = append(l, api.Msg{Kind: api.MsgNew, Changes: []api.Change{change(1, 2, proof(1, 2, body)), change(2, 2, proof(1, 2, body, 0, 3))}})
	}
	return l
}

// may holds that a message may be: it is put as the second writing does, and got as it was.
func may(t *testing.T, why string, m api.Msg) {
	t.Helper()
	if !mayBeElsewhere(m) {
		t.Fatalf("%s: the second writing lets %s not be", why, showAny(m))
	}
	if err := Check(m); err != nil {
		t.Fatalf("%s: Check(%s) = %v", why, showAny(m), err)
	}
	want := bytesElsewhere(m)
	b, err := Put(m)
	if !bytes.Equal(b, want) || err != nil {
		t.Fatalf("%s: Put(%s) = %s, %v, not %s", why, showAny(m), show(b), err, show(want))
	}
	if got, err := Get(b); !sameMsg(got, m) || err != nil {
		t.Fatalf("%s: Get(%s) = %s, %v", why, show(b), showAny(got), err)
	}
}

// mayNot holds that a message may not be, nor be got: each error itself, and nothing beside it.
func mayNot(t *testing.T, why string, m api.Msg) {
	t.Helper()
	if mayBeElsewhere(m) {
		t.Fatalf("%s: the second writing lets %s be", why, showAny(m))
	}
	if err := Check(m); err != api.ErrArg {
		t.Fatalf("%s: Check(%s) = %v", why, showAny(m), err)
	}
	if b, err := Put(m); b != nil || err != api.ErrArg {
		t.Fatalf("%s: Put(%s) = %s, %v", why, showAny(m), show(b), err)
	}
	notBytes(t, why, bytesElsewhere(m))
}

// holdMay holds that a message may be if it is said to, and not otherwise.
func holdMay(t *testing.T, why string, m api.Msg, is bool) {
	t.Helper()
	if is {
		may(t, why, m)
	} else {
		mayNot(t, why, m)
	}
}

// notBytes holds that bytes are no message's: ErrForm itself, and nothing beside it.
func notBytes(t *testing.T, why string, b []byte) {
	t.Helper()
	if m, err := Get(b); !isNoMsg(m) || err != api.ErrForm {
		t.Fatalf("%s: Get(%s) = %s, %v", why, show(b), showAny(m), err)
	}
}

// holdBytes: of bytes Get tells what the second writing does, and what was got is put as these bytes. It tells whether there is a message.
func holdBytes(t *testing.T, b []byte) bool {
	t.Helper()
	want, ok := getElsewhere(b)
	if !ok {
		notBytes(t, "the second writing has none", b)
		return false
	}
	m, err := Get(b)
	if !sameMsg(m, want) || err != nil {
		t.Fatalf("Get(%s) = %s, %v, not %s", show(b), showAny(m), err, showAny(want))
	}
	if err := Check(m); err != nil {
		t.Fatalf("%s was got, Check tells %v", show(b), err)
	}
	if again, err := Put(m); !bytes.Equal(again, b) || err != nil {
		t.Fatalf("%s was got, %s, %v is put", show(b), show(again), err)
	}
	return true
}

type written struct {
	m api.Msg
	b string
}

// byHand are messages, and their bytes as written by hand.
func byHand() []written {
	p := proof(1, 2, "b", 0, 3)
	long := text("x", 4096)
	return []written{
		{api.Msg{Kind: 1}, "\x01\x00\x00\x00\x00\x00\x00"},
		{api.Msg{Kind: 1, From: 7, Body: "\x00\xff"}, "\x01\x07\x00\x00\x02\x00\xff\x00\x00"},
		{api.Msg{Kind: 2, From: 1, View: 5, Seq: 64, Body: "é"}, "\x02\x01\x05\x40\x02é\x00\x00"},
		{api.Msg{Kind: 3, From: 2, View: 1, Seq: 3, Body: "a"}, "\x03\x02\x01\x03\x01a\x00\x00"},
		{api.Msg{Kind: 4, From: 12, View: 64, Seq: 64, Body: text("x", 128)}, "\x04\x0c\x40\x40\x80\x01" + text("x", 128) + "\x00\x00"},
		{api.Msg{Kind: 5, From: 3, View: 1}, "\x05\x03\x01\x00\x00\x00\x00"},
		{api.Msg{Kind: 5, From: 3, View: 2, Proofs: []api.Proof{p}}, "\x05\x03\x02\x00\x00\x01\x01\x02\x01b\x02\x00\x03\x00"},
		{api.Msg{Kind: 5, From: 3, View: 2, Seq: 4, Body: "a", Proofs: []api.Proof{proof(0, 0, ""), p, proof(64, 63, long, 12)}},
			"\x05\x03\x02\x04\x01a\x03\x00\x00\x00\x00\x01\x02\x01b\x02\x00\x03\x40\x3f\x80\x20" + long + "\x01\x0c\x00"},
		{api.Msg{Kind: 6, From: 2, View: 2}, "\x06\x02\x02\x00\x00\x00\x00"},
		{api.Msg{Kind: 6, From: 2, View: 2, Changes: []api.Change{change(1, 2, p)}}, "\x06\x02\x02\x00\x00\x00\x01\x01\x02\x01\x01\x02\x01b\x02\x00\x03"},
		{api.Msg{Kind: 6, From: 2, View: 2, Body: "a", Changes: []api.Change{change(0, 1), change(12, 64, p, proof(3, 4, "", 5)), change(1, 0)}},
			"\x06\x02\x02\x00\x01a\x00\x03\x00\x01\x00\x0c\x40\x02\x01\x02\x01b\x02\x00\x03\x03\x04\x00\x01\x05\x01\x00\x00"},
		{api.Msg{Kind: 7, From: 2, Seq: 127, Body: "a"}, "\x07\x02\x00\x7f\x01a\x00\x00"},
		{api.Msg{Kind: 7, From: 2, View: 1, Seq: 1000, Body: long}, "\x07\x02\x01\xe8\x07\x80\x20" + long + "\x00\x00"},
	}
}

// P12.1, P12.2: the chapter's example, and bytes written by hand.
func TestWrittenByHand(t *testing.T) {
	for _, x := range byHand() {
		if b, err := Put(x.m); string(b) != x.b || err != nil {
			t.Errorf("Put(%s) = %s, %v", showAny(x.m), show(b), err)
		}
		if m, err := Get([]byte(x.b)); !sameMsg(m, x.m) || err != nil {
			t.Errorf("Get(%s) = %s, %v", show([]byte(x.b)), showAny(m), err)
		}
	}
}

// P12.1, P12.2, P12.4: messages of all kinds are put, got as they were, and put as those bytes.
func TestThereAndBack(t *testing.T) {
	for _, m := range all() {
		may(t, "one of all", m)
		holdBytes(t, bytesElsewhere(m))
	}
}

// P12.4: messages have the same bytes only if they are the same.
func TestBytesApart(t *testing.T) {
	seen := map[string]api.Msg{}
	for _, m := range all() {
		b, err := Put(m)
		if err != nil {
			t.Fatal(err)
		}
		if other, ok := seen[string(b)]; ok && !sameMsg(m, other) {
			t.Errorf("%s and %s have the same bytes", showAny(m), showAny(other))
		}
		seen[string(b)] = m
	}
}

// around are numbers at the edges of 0 to most, and far off; what fewer bits of some hold would be right.
func around(most int) []int {
	return []int{
		0, 1, most / 2, most - 1, most, most + 1, most + 2, 2*most + 1, -1, -2, -most, 127, 128, 255, 256, 256 + most, 999, 1000, 1001, 1 << 16, 1<<16 + 1,
		math.MaxInt32, math.MaxInt32 + 1, 1 << 32, 1<<32 + 1, 1<<32 + most, math.MaxInt - 1, math.MaxInt, math.MinInt, math.MinInt + 1, math.MinInt + most,
	}
}

// sized are numbers of bytes, or of elements, at the edges of 0 to most, and above.
func sized(most int) []int {
	return []int{0, 1, 2, max(0, most-1), most, most + 1, most + 2, 2*most + 1, 127, 128, 255, 256, 256 + most, 4095, 4096, 4097, 5000}
}

// field is a number of a message, or how long something of it is: up to most.
type field struct {
	what   string
	most   int
	isSize bool
	set    func(m *api.Msg, n int)
}

// proofFields are those of a proof of a message, of how many are beside it, too.
func proofFields(what string, of func(m *api.Msg) *[]api.Proof) []field {
	first := func(m *api.Msg) *api.Proof { return &(*of(m))[0] }
	last := func(m *api.Msg) *api.Proof { return &(*of(m))[len(*of(m))-1] }
	var l []field
	for _, p := range []func(m *api.Msg) *api.Proof{first, last} {
		l = append(l,
			field{what + "View of a proof", 64, false, func(m *api.Msg, n int) { p(m).View = n }},
			field{what + "Seq of a proof", 64, false, func(m *api.Msg, n int) { p(m).Seq = n }},
			field{what + "Body of a proof", 4096, true, func(m *api.Msg, n int) { p(m).Body = text("b", n) }},
			field{what + "From of a proof, many", 13, true, func(m *api.Msg, n int) { p(m).From = make([]int, n) }},
			field{what + "From of a proof, alone", 12, false, func(m *api.Msg, n int) { p(m).From = []int{n} }},
			field{what + "From of a proof, first", 12, false, func(m *api.Msg, n int) { p(m).From = append([]int{n}, make([]int, 12)...) }},
			field{what + "From of a proof, last", 12, false, func(m *api.Msg, n int) { p(m).From = append(make([]int, 12), n) }},
		)
	}
	return append(l,
		field{what + "empty Proofs", 64, true, func(m *api.Msg, n int) { *of(m) = make([]api.Proof, n) }},
		field{what + "Proofs", 64, true, func(m *api.Msg, n int) { *of(m) = manyProofs(n, "b") }},
	)
}

// changeFields are those of a change of a message.
func changeFields(what string, of func(m *api.Msg) *api.Change) []field {
	return append(proofFields(what, func(m *api.Msg) *[]api.Proof { return &of(m).Proofs }),
		field{what + "From of a change", 12, false, func(m *api.Msg, n int) { of(m).From = n }},
		field{what + "View of a change", 64, false, func(m *api.Msg, n int) { of(m).View = n }},
	)
}

// fields are those of a message of a kind; of its proofs and changes, if it has such.
func fields(m api.Msg) []field {
	seq, proofs, changes := 64, 0, 0
	switch m.Kind {
	case api.MsgChange:
		proofs = 64
	case api.MsgNew:
		changes = 13
	case api.MsgReply:
		seq = 1000
	}
	l := []field{
		{"From", 12, false, func(m *api.Msg, n int) { m.From = n }},
		{"View", 64, false, func(m *api.Msg, n int) { m.View = n }},
		{"Seq", seq, false, func(m *api.Msg, n int) { m.Seq = n }},
		{"Body", 4096, true, func(m *api.Msg, n int) { m.Body = text("a", n) }},
		{"zero Proofs", proofs, true, func(m *api.Msg, n int) { m.Proofs = make([]api.Proof, n) }},
		{"Proofs", proofs, true, func(m *api.Msg, n int) { m.Proofs = manyProofs(n, "") }},
		{"zero Changes", changes, true, func(m *api.Msg, n int) { m.Changes = make([]api.Change, n) }},
		{"Changes", changes, true, func(m *api.Msg, n int) { m.Changes = manyChanges(n, 1, "") }},
	}
	if len(m.Proofs) > 0 {
		l = append(l, proofFields("", func(m *api.Msg) *[]api.Proof { return &m.Proofs })...)
	}
	if len(m.Changes) > 0 {
		l = append(l, changeFields("first, ", func(m *api.Msg) *api.Change { return &m.Changes[0] })...)
		l = append(l, changeFields("last, ", func(m *api.Msg) *api.Change { return &m.Changes[len(m.Changes)-1] })...)
	}
	return l
}

// toChange are messages of each kind, with and without proofs and changes, whose fields are to be set otherwise.
func toChange() []api.Msg {
	return append(plain(),
		api.Msg{Kind: api.MsgChange, From: 1, View: 2, Proofs: someProofs()[1:2]},
		api.Msg{Kind: api.MsgChange, From: 1, View: 2, Body: "a", Proofs: someProofs()},
		api.Msg{Kind: api.MsgNew, From: 1, View: 2, Changes: []api.Change{change(1, 2, someProofs()[1:2]...)}},
		api.Msg{Kind: api.MsgNew, From: 1, View: 2, Changes: []api.Change{change(1, 2, someProofs()...), change(2, 2), change(3, 2, someProofs()[:3]...)}},
	)
}

// P12.1, P12.2, R3: each number, and each length, of a message of each kind, of its proofs, its changes and their proofs, at its edges and far off.
func TestFields(t *testing.T) {
	for _, m := range toChange() {
		for _, f := range fields(m) {
			values := around(f.most)
			if f.isSize {
				values = sized(f.most)
			}
			for _, n := range values {
				other := cloneMsg(m)
				f.set(&other, n)
				holdMay(t, f.what+" "+strconv.Itoa(n)+" of kind "+strconv.Itoa(m.Kind), other, 0 <= n && n <= f.most)
			}
		}
	}
}

// P12.1, P12.2, R3: only seven kinds are kinds.
func TestKinds(t *testing.T) {
	for _, kind := range append(around(7), 2, 3, 4, 5, 6, 8, 9, 10, 257, 258, 1<<32+7) {
		for _, body := range []string{"", "a"} {
			holdMay(t, "kind "+strconv.Itoa(kind), api.Msg{Kind: kind, From: 1, View: 2, Seq: 3, Body: body}, 1 <= kind && kind <= 7)
		}
	}
	mayNot(t, "the zero message", api.Msg{})
}

// P12.1, P12.2: every number up to some above the edges, of each kind.
func TestAllNumbers(t *testing.T) {
	for kind := -2; kind <= 10; kind++ {
		is := 1 <= kind && kind <= 7
		for n := -3; n <= 300; n++ {
			holdMay(t, "From", api.Msg{Kind: kind, From: n}, is && 0 <= n && n <= 12)
			holdMay(t, "View", api.Msg{Kind: kind, View: n}, is && 0 <= n && n <= 64)
		}
		for n := -3; n <= 1300; n++ {
			holdMay(t, "Seq", api.Msg{Kind: kind, Seq: n}, is && 0 <= n && (n <= 64 || kind == 7 && n <= 1000))
		}
	}
}

// P12.1, P12.2: proofs are of MsgChange alone, and changes of MsgNew alone, whatever they are, and both of none.
func TestListsOfOtherKinds(t *testing.T) {
	for kind := -1; kind <= 9; kind++ {
		for _, n := range []int{1, 2, 13, 14, 64, 65} {
			holdMay(t, "proofs", api.Msg{Kind: kind, Proofs: manyProofs(n, "")}, kind == 5 && n <= 64)
			holdMay(t, "zero proofs", api.Msg{Kind: kind, Proofs: make([]api.Proof, n)}, kind == 5 && n <= 64)
			holdMay(t, "changes", api.Msg{Kind: kind, Changes: manyChanges(n, 1, "")}, kind == 6 && n <= 13)
			holdMay(t, "changes without proofs", api.Msg{Kind: kind, Changes: manyChanges(n, 0, "")}, kind == 6 && n <= 13)
			mayNot(t, "both", api.Msg{Kind: kind, Proofs: manyProofs(n, ""), Changes: manyChanges(n, 1, "")})
			mayNot(t, "both, one zero", api.Msg{Kind: kind, Proofs: make([]api.Proof, 1), Changes: make([]api.Change, n)})
		}
		empty := api.Msg{Kind: kind, Proofs: []api.Proof{}, Changes: make([]api.Change, 0, 5)}
		holdMay(t, "empty lists", empty, 1 <= kind && kind <= 7)
	}
}

// P12.1: each proof, and each change, wherever it stands among others, is looked at.
func TestOneOfMany(t *testing.T) {
	for i := range 64 {
		m := api.Msg{Kind: api.MsgChange, Proofs: manyProofs(64, "")}
		m.Proofs[i].View = 65
		mayNot(t, "a proof's View", m)
		m.Proofs[i].View = 0
		for j := range 13 {
			m.Proofs[i].From = make([]int, 13)
			m.Proofs[i].From[j] = 13
			mayNot(t, "a proof's From", m)
		}
	}
	for i := range 13 {
		m := api.Msg{Kind: api.MsgNew, Changes: manyChanges(13, 64, "")}
		for j := range 64 {
			p := &m.Changes[i].Proofs[j]
			p.Seq += 65
			mayNot(t, "a change's proof's Seq", m)
			p.Seq -= 65
		}
		m.Changes[i].From = 13
		mayNot(t, "a change's From", m)
	}
}

// P12.2, R3: no bytes are no message's.
func TestNoBytes(t *testing.T) {
	notBytes(t, "nil", nil)
	notBytes(t, "empty", []byte{})
	notBytes(t, "none, but some behind", bytesElsewhere(api.Msg{Kind: 1})[:0])
}

// P12.2, R3: bytes that are cut off at each place, though the rest stands behind their end.
func TestCutOff(t *testing.T) {
	for _, m := range small() {
		b := bytesElsewhere(m)
		for n := range b {
			notBytes(t, "cut off", b[:n])
			notBytes(t, "cut off, nothing behind", slices.Clip(bytes.Clone(b[:n])))
		}
	}
	// Of many bytes the ends of some pieces, and the last bytes.
	for _, m := range full() {
		b := bytesElsewhere(m)
		at := 0
		for i, p := range piecesElsewhere(m) {
			at += len(p.b)
			if (i < 100 || i%503 == 0) && at < len(b) {
				notBytes(t, "cut off at a piece's end", b[:at])
			}
		}
		for n := 1; n < 100; n++ {
			notBytes(t, "cut off at the end", b[:len(b)-n])
		}
	}
}

// P12.2, R3: bytes with one more behind their end, and with many.
func TestMoreBehind(t *testing.T) {
	for _, m := range all() {
		b := slices.Clip(bytesElsewhere(m))
		values := []byte{0, 1, 0x80, 0xff}
		if len(b) < 2000 {
			for x := range 256 {
				values = append(values, byte(x))
			}
		}
		for _, x := range values {
			notBytes(t, "one more", append(b, x))
		}
		notBytes(t, "twice", append(b, b...))
		notBytes(t, "many more", append(b, make([]byte, 5000)...))
	}
}

// longer is a number with zeros as its highest digits.
func longer(b []byte, zeros int) []byte {
	out := bytes.Clone(b)
	for range zeros {
		out[len(out)-1] |= 0x80
		out = append(out, 0)
	}
	return out
}

// eachNumber goes through the numbers of some messages' bytes: one's bytes, and the message's bytes with others in their place.
func eachNumber(l []api.Msg, do func(number []byte, with func(other []byte) []byte)) {
	for _, m := range l {
		eachPiece(piecesElsewhere(m), do)
	}
}

func eachPiece(pieces []piece, do func(number []byte, with func(other []byte) []byte)) {
	for i, p := range pieces {
		if !p.number {
			continue
		}
		do(p.b, func(other []byte) []byte {
			changed := slices.Clone(pieces)
			changed[i].b = other
			return joined(changed)
		})
	}
}

// few are messages of each kind and list that have few bytes.
func few() []api.Msg {
	var l []api.Msg
	for _, m := range small() {
		if len(bytesElsewhere(m)) < 600 {
			l = append(l, m)
		}
	}
	return l
}

// P12.2, R3: a number in too many bytes is none, wherever it stands: how many bytes a text has, too.
func TestNumbersInTooManyBytes(t *testing.T) {
	eachNumber(few(), func(number []byte, with func([]byte) []byte) {
		for zeros := 1; zeros <= 10; zeros++ {
			notBytes(t, "too many bytes", with(longer(number, zeros)))
		}
	})
}

// P12.2, R3: a number that is greater than any may be here, wherever it stands, up to as great as a number can be; what an int's fewer bits hold is right.
func TestNumbersTooGreat(t *testing.T) {
	eachNumber(few(), func(number []byte, with func([]byte) []byte) {
		n, _ := binary.Uvarint(number)
		for _, more := range []uint64{1 << 10, 1 << 12, 1 << 16, 1 << 31, 1 << 32, 1 << 62, 1 << 63, 1<<63 + 1<<32, math.MaxUint64 - n} {
			notBytes(t, "too great", with(binary.AppendUvarint(nil, n+more)))
		}
		for _, huge := range []uint64{math.MaxInt32, math.MaxUint32, math.MaxInt64, math.MaxInt64 + 1, math.MaxUint64 - 1, math.MaxUint64} {
			notBytes(t, "huge", with(binary.AppendUvarint(nil, huge)))
		}
		ten := longer(number, 10-len(number))
		ten[9] = 2
		notBytes(t, "2^64 more", with(ten))
		notBytes(t, "eleven digits", with(append(bytes.Repeat([]byte{0xff}, 10), 1)))
	})
}

// P12.2: a message with a number, or a count, a little greater, or smaller, is another one, or none.
func TestNumbersBeside(t *testing.T) {
	got := 0
	eachNumber(few(), func(number []byte, with func([]byte) []byte) {
		n, _ := binary.Uvarint(number)
		for d := uint64(1); d <= 3; d++ {
			for _, other := range []uint64{n + d, n - d} {
				if holdBytes(t, with(binary.AppendUvarint(nil, other))) {
					got++
				}
			}
		}
	})
	if got < 1000 {
		t.Errorf("only %d of them are messages'", got)
	}
}

// P12.2, R3: a count, or a text's length, that says more than there is, up to what may be and beyond.
func TestCountsWithoutElements(t *testing.T) {
	for n := 1; n <= 5000; n++ {
		count := string(binary.AppendUvarint(nil, uint64(n)))
		for _, front := range []string{"\x03\x00\x00\x00", "\x05\x00\x00\x00\x00", "\x05\x00\x00\x00\x00\x01\x00\x00\x00", "\x06\x00\x00\x00\x00\x00", "\x06\x00\x00\x00\x00\x00\x01\x00\x00"} {
			notBytes(t, "nothing behind", []byte(front+count))
			notBytes(t, "a zero behind", []byte(front+count+"\x00"))
		}
	}
}

// P12.2: messages' bytes with a byte left out, put between, or changed are those of another message, or none's.
func TestChangedBytes(t *testing.T) {
	var every []byte
	for x := range 256 {
		every = append(every, byte(x))
	}
	for _, x := range byHand() {
		b, values := []byte(x.b), every
		// Of long ones some bytes are enough: most of these stand in texts.
		if len(b) > 200 {
			values = []byte{0, 0x80}
		}
		for i := range b {
			holdBytes(t, slices.Delete(bytes.Clone(b), i, i+1))
			for _, x := range values {
				holdBytes(t, slices.Insert(bytes.Clone(b), i, x))
				changed := bytes.Clone(b)
				changed[i] = x
				holdBytes(t, changed)
			}
		}
	}
}

// holdAllShort holds all texts of up to so many of some bytes, behind some beginnings, and tells how many are what they should be.
func holdAllShort(fronts []string, chosen []byte, most int, hold func(b []byte) bool) int {
	got := 0
	var next func(b []byte, more int)
	next = func(b []byte, more int) {
		if hold(b) {
			got++
		}
		if more == 0 {
			return
		}
		for _, x := range chosen {
			next(append(slices.Clip(b), x), more-1)
		}
	}
	for _, front := range fronts {
		next([]byte(front), most)
	}
	return got
}

// P1, P12.2, P12.4: all bytes of up to six of these, alone and behind some beginnings.
func TestAllShortBytes(t *testing.T) {
	// Of any; of a body; of proofs; of a proof; of a proof's body; of changes; of a change's proof; of a second change.
	fronts := []string{
		"", "\x02\x01\x01\x01", "\x05\x01\x02\x00\x00", "\x05\x01\x02\x00\x00\x01", "\x05\x01\x02\x00\x00\x01\x01\x01",
		"\x06\x01\x02\x00\x00\x00", "\x06\x01\x02\x00\x00\x00\x01\x01\x02\x01", "\x06\x01\x02\x00\x00\x00\x02\x01\x01\x00",
	}
	got := holdAllShort(fronts, []byte{0, 1, 2, 6, 12, 13, 0x80, 0xff}, 6, func(b []byte) bool { return holdBytes(t, b) })
	got += holdAllShort([]string{""}, []byte{0, 1, 5}, 9, func(b []byte) bool { return holdBytes(t, b) })
	if got < 1000 {
		t.Errorf("only %d of them are messages'", got)
	}
}

// changeSome changes bytes at one to three places.
func changeSome(row *rand.Rand, b []byte) []byte {
	for range 1 + row.Intn(3) {
		i := row.Intn(len(b) + 1)
		switch row.Intn(4) {
		case 0:
			b = slices.Insert(b, i, byte(row.Intn(256)))
		case 1:
			b = slices.Delete(b, i, min(len(b), i+1))
		case 2:
			b = b[:i]
		default:
			if i < len(b) {
				b[i] += byte(1 + row.Intn(255))
			}
		}
	}
	return b
}

// P1, P12.2, P12.4: messages' bytes, changed at several places, from a row of numbers that is always the same.
func TestManyChanges(t *testing.T) {
	row := rand.New(rand.NewSource(12))
	l := small()
	got := 0
	for range 100000 {
		if holdBytes(t, changeSome(row, bytesElsewhere(l[row.Intn(len(l))]))) {
			got++
		}
	}
	if got < 1000 {
		t.Errorf("only %d of them are messages'", got)
	}
}

// someMsg is some message, most of them ones that may be, from a row of numbers.
func someMsg(row *rand.Rand) api.Msg {
	// One of some hundred numbers is beyond its edge.
	upTo := func(most int) int {
		if row.Intn(400) == 0 {
			return []int{-1, most + 1}[row.Intn(2)]
		}
		return row.Intn(most + 1)
	}
	body := func() string { return text(string(rune('a'+row.Intn(26))), row.Intn(4)) }
	proofs := func() []api.Proof {
		var l []api.Proof
		for range row.Intn(5) {
			p := api.Proof{View: upTo(64), Seq: upTo(64), Body: body()}
			for range row.Intn(4) {
				p.From = append(p.From, upTo(12))
			}
			l = append(l, p)
		}
		return l
	}
	m := api.Msg{Kind: 1 + row.Intn(7), From: upTo(12), View: upTo(64), Seq: upTo(64), Body: body()}
	if m.Kind == api.MsgReply {
		m.Seq = upTo(1000)
	}
	if m.Kind == api.MsgChange || row.Intn(50) == 0 {
		m.Proofs = proofs()
	}
	if m.Kind == api.MsgNew || row.Intn(50) == 0 {
		for range row.Intn(4) {
			m.Changes = append(m.Changes, api.Change{From: upTo(12), View: upTo(64), Proofs: proofs()})
		}
	}
	return m
}

// P12.1, P12.2, P12.4: many messages, from a row of numbers that is always the same, are and aren't let be as the second writing says.
func TestManyMessages(t *testing.T) {
	row := rand.New(rand.NewSource(120))
	count := [2]int{}
	for range 30000 {
		m := someMsg(row)
		is := mayBeElsewhere(m)
		holdMay(t, "some message", m, is)
		if is {
			count[1]++
		} else {
			count[0]++
		}
	}
	if min(count[0], count[1]) < 500 {
		t.Error("too few of one sort:", count)
	}
}

// P1: messages and bytes that are long, or tell of more than there is, are gone through, too.
func TestLong(t *testing.T) {
	const n = 1 << 17
	huge := string(binary.AppendUvarint(nil, math.MaxUint64))
	for _, front := range []string{
		"", huge, "\x05\x00\x00\x00", "\x05\x00\x00\x00" + huge, "\x05\x00\x00\x00\x80\x20", "\x05\x00\x00\x00\x00", "\x05\x00\x00\x00\x00" + huge, "\x05\x00\x00\x00\x00\x40",
		"\x05\x00\x00\x00\x00\x01\x00\x00\x00" + huge, "\x06\x00\x00\x00\x00\x00", "\x06\x00\x00\x00\x00\x00" + huge, "\x06\x00\x00\x00\x00\x00\x0d",
		"\x06\x00\x00\x00\x00\x00\x01\x00\x00" + huge, "\x06\x00\x00\x00\x00\x00\x01\x00\x00\x40",
	} {
		for _, s := range []string{text("\x00", n), text("\x01", n), text("\x05", n), text("\x40", n), text("\x80", n), text("\xff", n)} {
			notBytes(t, "long", []byte(front+s))
		}
	}
	mayNot(t, "a long body", api.Msg{Kind: 1, Body: text("x", 1<<20)})
	mayNot(t, "many proofs", api.Msg{Kind: 5, Proofs: make([]api.Proof, n)})
	mayNot(t, "many changes", api.Msg{Kind: 6, Changes: make([]api.Change, n)})
	mayNot(t, "many nodes", api.Msg{Kind: 5, Proofs: []api.Proof{{From: make([]int, n)}}})
	mayNot(t, "many proofs of a change", api.Msg{Kind: 6, Changes: []api.Change{{Proofs: make([]api.Proof, n)}}})
	mayNot(t, "many of all", api.Msg{Kind: 1, Body: text("x", n), Proofs: make([]api.Proof, n), Changes: make([]api.Change, n)})
}

// roomy is a message whose lists have more behind their ends.
func roomy(m api.Msg) api.Msg {
	m = cloneMsg(m)
	room := func(l []api.Proof) []api.Proof {
		for i, p := range l {
			l[i].From = append(slices.Clone(p.From), 1, 2, 3, 4, 5)[:len(p.From)]
		}
		return append(l, proof(7, 8, "behind", 9))[:len(l)]
	}
	m.Proofs = room(m.Proofs)
	for i, c := range m.Changes {
		m.Changes[i].Proofs = room(c.Proofs)
	}
	m.Changes = append(m.Changes, change(5, 6, proof(7, 8, "behind")))[:len(m.Changes)]
	return m
}

// behind is a message of all that its lists have, what is behind their ends, too.
func behind(m api.Msg) api.Msg {
	whole := func(l []api.Proof) []api.Proof {
		l = slices.Clone(l[:cap(l)])
		for i, p := range l {
			l[i].From = slices.Clone(p.From[:cap(p.From)])
		}
		return l
	}
	m.Proofs = whole(m.Proofs)
	m.Changes = slices.Clone(m.Changes[:cap(m.Changes)])
	for i, c := range m.Changes {
		m.Changes[i].Proofs = whole(c.Proofs)
	}
	return m
}

// handedIn are messages that may be, and some that may not.
func handedIn() []api.Msg {
	l := append(small(), full()...)
	return append(l,
		api.Msg{}, api.Msg{Kind: 1, Proofs: someProofs()}, api.Msg{Kind: 5, Proofs: manyProofs(65, "")}, api.Msg{Kind: 6, Changes: manyChanges(14, 2, "")},
		api.Msg{Kind: 5, Proofs: append(someProofs(), proof(65, 0, "x", 3, 2, 1))}, api.Msg{Kind: 6, Changes: []api.Change{change(3, 2, someProofs()...), change(13, 0)}},
	)
}

// P12.3, R2: what is handed to Check and Put stays as it is, what its lists have behind their ends, too.
func TestMessageStays(t *testing.T) {
	for _, m := range handedIn() {
		in := roomy(m)
		want := behind(in)
		for range 2 {
			Check(in)
			Put(in)
		}
		if !sameMsg(in, m) || !sameMsg(behind(in), want) {
			t.Fatalf("%s became %s", showAny(m), showAny(in))
		}
	}
}

// P12.3, R2: what is handed to Get stays as it is, what it has behind its end, too.
func TestBytesStay(t *testing.T) {
	for _, m := range handedIn() {
		b := bytesElsewhere(m)
		whole := append(bytes.Clone(b), 1, 2, 3)
		want := bytes.Clone(whole)
		for _, n := range []int{len(b), len(b) - 1, len(b) / 2} {
			Get(whole[:n])
			if !bytes.Equal(whole, want) {
				t.Fatalf("%s became %s", show(want), show(whole))
			}
		}
	}
}

// P12.3, R2: bytes that are told may be changed: neither the message nor what is told again changes; nor do they, with the message.
func TestBytesAreNew(t *testing.T) {
	for _, m := range small() {
		in := roomy(m)
		want := bytesElsewhere(m)
		one, err := Put(in)
		if err != nil {
			t.Fatal(err)
		}
		two, _ := Put(in)
		spoil(one, 0x55)
		if !bytes.Equal(two, want) || !sameMsg(in, m) {
			t.Fatalf("%s: a change of what was told reached %s, %s", showAny(m), show(two), showAny(in))
		}
		if three, err := Put(in); !bytes.Equal(three, want) || err != nil {
			t.Fatalf("%s: a change of what was told was kept: %s, %v", showAny(m), show(three), err)
		}
		spoilMsg(in)
		if !bytes.Equal(two, want) {
			t.Fatalf("%s: a change of the message reached %s", showAny(m), show(two))
		}
	}
}

// P12.3, R2: a message that is told may be changed: neither the bytes nor what is told again changes; nor does it, with the bytes.
func TestMessageIsNew(t *testing.T) {
	for _, m := range small() {
		want := bytesElsewhere(m)
		b := bytes.Clone(want)
		one, err := Get(b)
		if err != nil {
			t.Fatal(err)
		}
		two, _ := Get(b)
		spoilMsg(one)
		if !bytes.Equal(b, want) || !sameMsg(two, m) {
			t.Fatalf("%s: a change of what was told reached %s, %s", showAny(m), show(b), showAny(two))
		}
		if three, err := Get(b); !sameMsg(three, m) || err != nil {
			t.Fatalf("%s: a change of what was told was kept: %s, %v", showAny(m), showAny(three), err)
		}
		spoil(b, 0x55)
		if !sameMsg(two, m) {
			t.Fatalf("%s: a change of the bytes reached %s", showAny(m), showAny(two))
		}
	}
}

// P12.3, R2: what is told shares no memory with what was handed in, nor with what was told ahead of it, nor two of its lists with each other.
func TestMemoryApart(t *testing.T) {
	for _, m := range small() {
		b := bytesElsewhere(m)
		one, err := Get(b)
		if err != nil {
			t.Fatal(err)
		}
		two, _ := Get(b)
		bytesOne, _ := Put(m)
		bytesTwo, _ := Put(m)
		things := [][]span{{listSpan(b)}, msgSpans(m), msgSpans(one), msgSpans(two), {listSpan(bytesOne)}, {listSpan(bytesTwo)}}
		for i, spans := range things {
			for _, other := range things[:i] {
				if shares(spans, other) {
					t.Fatalf("%s: memory is shared", showAny(m))
				}
			}
		}
		if listsMeet(msgSpans(one)) {
			t.Fatalf("%s: two lists share memory", showAny(m))
		}
	}
	l := []api.Proof{proof(1, 2, "ab", 3)}
	if m := (api.Msg{Proofs: l, Changes: []api.Change{{Proofs: l[:0]}}}); !shares(proofsSpans(l), msgSpans(m)) || !listsMeet(msgSpans(m)) {
		t.Error("what is shared isn't found")
	}
}

// P12.3, R2: what is told hangs on what is handed in alone, whatever was asked ahead of it.
func TestNothingIsKept(t *testing.T) {
	l := small()
	for i, m := range l {
		other := l[(i*7+3)%len(l)]
		Put(other)
		Get(bytesElsewhere(other))
		Check(api.Msg{Kind: 8})
		Get([]byte{9})
		may(t, "behind others", m)
	}
}
