package msg

import (
	"bytes"
	"encoding/binary"
	"fmt"
	"math"
	"slices"
	"strings"
	"unsafe"

	"becket/api"
)

// The chapter once more, by the library's own numbers, and with the limits written out.

func text(s string, n int) string { return strings.Repeat(s, n) }

func short(s string) string { return s[:min(len(s), 300)] }

// show tells bytes in a line that isn't too long.
func show(b []byte) string { return short(fmt.Sprintf("%x", b[:min(len(b), 150)])) }

func showAny(x any) string { return short(fmt.Sprintf("%+v", x)) }

// piece is one number, or the bytes of one text.
type piece struct {
	b      []byte
	number bool
}

func joined(l []piece) []byte {
	var b []byte
	for _, p := range l {
		b = append(b, p.b...)
	}
	return b
}

// output is written number by number, and text by text; a number below 0 as the great one of the same bits.
type output struct {
	b    []byte
	ends []end
}

// end is where a number, or the bytes of a text, end.
type end struct {
	at     int
	number bool
}

func (out *output) num(n int) {
	out.b = binary.AppendUvarint(out.b, uint64(n))
	out.ends = append(out.ends, end{len(out.b), true})
}

func (out *output) text(s string) {
	out.num(len(s))
	out.b = append(out.b, s...)
	out.ends = append(out.ends, end{len(out.b), false})
}

func (out *output) pieces() []piece {
	var l []piece
	at := 0
	for _, e := range out.ends {
		l = append(l, piece{out.b[at:e.at:e.at], e.number})
		at = e.at
	}
	return l
}

func (out *output) texts(l []string) {
	out.num(len(l))
	for _, s := range l {
		out.text(s)
	}
}

func (out *output) proofs(l []api.Proof) {
	out.num(len(l))
	for _, p := range l {
		out.num(p.View)
		out.num(p.Seq)
		out.text(p.Body)
		out.num(len(p.From))
		for _, n := range p.From {
			out.num(n)
		}
	}
}

// outputOf is a message's; of one that may not be, too.
func outputOf(m api.Msg) *output {
	out := &output{}
	for _, n := range []int{m.Kind, m.From, m.View, m.Seq} {
		out.num(n)
	}
	out.text(m.Body)
	out.proofs(m.Proofs)
	out.num(len(m.Changes))
	for _, c := range m.Changes {
		out.num(c.From)
		out.num(c.View)
		out.proofs(c.Proofs)
	}
	return out
}

func piecesElsewhere(m api.Msg) []piece { return outputOf(m).pieces() }

func bytesElsewhere(m api.Msg) []byte { return outputOf(m).b }

// outputOfAnswer is an answer's, however many bytes it has.
func outputOfAnswer(a api.Answer) *output {
	out := &output{}
	out.num(a.Code)
	out.num(a.N)
	out.texts(a.Names)
	out.texts(a.Keys)
	out.num(len(a.Entries))
	for _, e := range a.Entries {
		out.text(e.Path)
		out.num(e.Size)
		out.texts(e.Keys)
	}
	return out
}

func answerPieces(a api.Answer) []piece { return outputOfAnswer(a).pieces() }

func answerBytes(a api.Answer) string { return string(outputOfAnswer(a).b) }

// large is what an answer that has too many bytes is put as.
const large = "\x07\x00\x00\x00\x00"

// putAnswerElsewhere are an answer's bytes, or those of ErrLarge.
func putAnswerElsewhere(a api.Answer) string {
	least := min(a.Code, a.N)
	for _, e := range a.Entries {
		least = min(least, e.Size)
	}
	if b := answerBytes(a); least >= 0 && len(b) <= 4096 {
		return b
	}
	return large
}

func areNodes(l []int) bool {
	return !slices.ContainsFunc(l, func(n int) bool { return n < 0 || n > 12 })
}

func areViews(l ...int) bool {
	return !slices.ContainsFunc(l, func(n int) bool { return n < 0 || n > 64 })
}

func areProofs(l []api.Proof) bool {
	for _, p := range l {
		// A Seq is from 0 to 64, as a view is.
		if !areViews(p.View, p.Seq) || len(p.Body) > 4096 || len(p.From) > 13 || !areNodes(p.From) {
			return false
		}
	}
	return len(l) <= 64
}

// mayBeElsewhere tells whether a message may be.
func mayBeElsewhere(m api.Msg) bool {
	if m.Kind < 1 || m.Kind > 7 || !areNodes([]int{m.From}) || !areViews(m.View) || len(m.Body) > 4096 {
		return false
	}
	if m.Seq < 0 || m.Seq > 1000 || m.Seq > 64 && m.Kind != 7 {
		return false
	}
	if len(m.Proofs) > 0 && m.Kind != 5 || len(m.Changes) > 0 && m.Kind != 6 {
		return false
	}
	for _, c := range m.Changes {
		if !areNodes([]int{c.From}) || !areViews(c.View) || !areProofs(c.Proofs) {
			return false
		}
	}
	return areProofs(m.Proofs) && len(m.Changes) <= 13
}

// input are bytes that are read by the library's own reader; none are left, once something isn't there.
type input struct {
	rest   []byte
	failed bool
}

// num is a number that may be any up to what an int of 64 bits holds.
func (in *input) num() int {
	n, size := binary.Uvarint(in.rest)
	if size <= 0 || n > math.MaxInt64 {
		*in = input{failed: true}
		return 0
	}
	in.rest = in.rest[size:]
	return int(n)
}

func (in *input) text() string {
	n := in.num()
	if n > len(in.rest) {
		*in = input{failed: true}
		return ""
	}
	s := string(in.rest[:n])
	in.rest = in.rest[n:]
	return s
}

// list reads as many as it tells, while there are bytes.
func (in *input) list(one func()) {
	for n := in.num(); n > 0 && !in.failed; n-- {
		one()
	}
}

func (in *input) texts() []string {
	var l []string
	in.list(func() { l = append(l, in.text()) })
	return l
}

func (in *input) proofs() []api.Proof {
	var l []api.Proof
	in.list(func() {
		p := api.Proof{View: in.num(), Seq: in.num(), Body: in.text()}
		in.list(func() { p.From = append(p.From, in.num()) })
		l = append(l, p)
	})
	return l
}

// getElsewhere is the message whose bytes these are; false, if they are none's.
func getElsewhere(b []byte) (api.Msg, bool) {
	in := &input{rest: b}
	m := api.Msg{Kind: in.num(), From: in.num(), View: in.num(), Seq: in.num(), Body: in.text(), Proofs: in.proofs()}
	in.list(func() { m.Changes = append(m.Changes, api.Change{From: in.num(), View: in.num(), Proofs: in.proofs()}) })
	// A number in too many bytes would be written in fewer.
	if in.failed || len(in.rest) > 0 || !mayBeElsewhere(m) || !bytes.Equal(bytesElsewhere(m), b) {
		return api.Msg{}, false
	}
	return m, true
}

// getAnswerElsewhere is the answer whose bytes these are; false, if they are none's.
func getAnswerElsewhere(s string) (api.Answer, bool) {
	in := &input{rest: []byte(s)}
	a := api.Answer{Code: in.num(), N: in.num(), Names: in.texts(), Keys: in.texts()}
	most := max(a.Code, a.N)
	in.list(func() {
		e := api.Entry{Path: in.text(), Size: in.num(), Keys: in.texts()}
		most = max(most, e.Size)
		a.Entries = append(a.Entries, e)
	})
	if in.failed || len(in.rest) > 0 || len(s) > 4096 || most > 1<<31-1 || answerBytes(a) != s {
		return api.Answer{}, false
	}
	return a, true
}

// Lists of no elements are the same, nil or not.

func sameProof(a, b api.Proof) bool {
	return a.View == b.View && a.Seq == b.Seq && a.Body == b.Body && slices.Equal(a.From, b.From)
}

func sameChange(a, b api.Change) bool {
	return a.From == b.From && a.View == b.View && slices.EqualFunc(a.Proofs, b.Proofs, sameProof)
}

func sameMsg(a, b api.Msg) bool {
	return a.Kind == b.Kind && a.From == b.From && a.View == b.View && a.Seq == b.Seq && a.Body == b.Body &&
		slices.EqualFunc(a.Proofs, b.Proofs, sameProof) && slices.EqualFunc(a.Changes, b.Changes, sameChange)
}

func sameEntry(a, b api.Entry) bool {
	return a.Path == b.Path && a.Size == b.Size && slices.Equal(a.Keys, b.Keys)
}

func sameAnswer(a, b api.Answer) bool {
	return a.Code == b.Code && a.N == b.N && slices.Equal(a.Names, b.Names) && slices.Equal(a.Keys, b.Keys) &&
		slices.EqualFunc(a.Entries, b.Entries, sameEntry)
}

// isNoMsg tells whether it is the zero value.
func isNoMsg(m api.Msg) bool { return sameMsg(m, api.Msg{}) }

func isNoAnswer(a api.Answer) bool { return sameAnswer(a, api.Answer{}) }

// each is a list of what comes of each element; nil stays nil.
func each[T any](l []T, one func(T) T) []T {
	out := slices.Clone(l)
	for i, x := range out {
		out[i] = one(x)
	}
	return out
}

func cloneProof(p api.Proof) api.Proof {
	p.From = slices.Clone(p.From)
	return p
}

func cloneMsg(m api.Msg) api.Msg {
	m.Proofs = each(m.Proofs, cloneProof)
	m.Changes = each(m.Changes, func(c api.Change) api.Change {
		c.Proofs = each(c.Proofs, cloneProof)
		return c
	})
	return m
}

func cloneAnswer(a api.Answer) api.Answer {
	a.Names, a.Keys = slices.Clone(a.Names), slices.Clone(a.Keys)
	a.Entries = each(a.Entries, func(e api.Entry) api.Entry {
		e.Keys = slices.Clone(e.Keys)
		return e
	})
	return a
}

// Spoiling overwrites all that a list has, what it has behind its end, too.

func spoil[T any](l []T, x T) {
	for i := range l[:cap(l)] {
		l[:cap(l)][i] = x
	}
}

func spoilProofs(l []api.Proof) {
	for _, p := range l {
		spoil(p.From, 11)
	}
	spoil(l, api.Proof{View: 61, Seq: 62, Body: "spoilt", From: []int{12}})
}

func spoilMsg(m api.Msg) {
	spoilProofs(m.Proofs)
	for _, c := range m.Changes {
		spoilProofs(c.Proofs)
	}
	spoil(m.Changes, api.Change{From: 10, View: 63})
}

func spoilAnswer(a api.Answer) {
	for _, e := range a.Entries {
		spoil(e.Keys, "spoilt")
	}
	spoil(a.Names, "spoilt")
	spoil(a.Keys, "spoilt")
	spoil(a.Entries, api.Entry{Path: "spoilt", Size: 999})
}

// span is where something stands in memory, what it has behind its end, too.
type span struct {
	at, size uintptr
	isList   bool
}

func (a span) meets(b span) bool {
	return a.size > 0 && b.size > 0 && a.at < b.at+b.size && b.at < a.at+a.size
}

func listSpan[T any](l []T) span {
	var x T
	return span{uintptr(unsafe.Pointer(unsafe.SliceData(l))), uintptr(cap(l)) * unsafe.Sizeof(x), true}
}

// textSpan is none of texts of one byte: these are the language's own, and nobody's.
func textSpan(s string) span {
	if len(s) < 2 {
		return span{}
	}
	return span{uintptr(unsafe.Pointer(unsafe.StringData(s))), uintptr(len(s)), false}
}

func textsSpans(l []string) []span {
	spans := []span{listSpan(l)}
	for _, s := range l {
		spans = append(spans, textSpan(s))
	}
	return spans
}

func proofsSpans(l []api.Proof) []span {
	spans := []span{listSpan(l)}
	for _, p := range l {
		spans = append(spans, textSpan(p.Body), listSpan(p.From))
	}
	return spans
}

func msgSpans(m api.Msg) []span {
	spans := append(proofsSpans(m.Proofs), textSpan(m.Body), listSpan(m.Changes))
	for _, c := range m.Changes {
		spans = append(spans, proofsSpans(c.Proofs)...)
	}
	return spans
}

func answerSpans(a api.Answer) []span {
	spans := slices.Concat(textsSpans(a.Names), textsSpans(a.Keys), []span{listSpan(a.Entries)})
	for _, e := range a.Entries {
		spans = append(spans, textSpan(e.Path))
		spans = append(spans, textsSpans(e.Keys)...)
	}
	return spans
}

// shares tells whether any of one meets any of the other.
func shares(one, other []span) bool {
	for _, a := range one {
		if slices.ContainsFunc(other, a.meets) {
			return true
		}
	}
	return false
}

// listsMeet tells whether any two lists of one thing have memory in common.
func listsMeet(spans []span) bool {
	for i, a := range spans {
		for _, b := range spans[:i] {
			if a.isList && b.isList && a.meets(b) {
				return true
			}
		}
	}
	return false
}
