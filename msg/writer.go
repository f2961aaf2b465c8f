package msg

import (
	"becket/api"
	"becket/wire"
)

// writer writes one thing behind the other, as long as there is room. Once it
// has failed it writes nothing more, so that whoever writes asks only once, at
// the end, whether all was written.
type writer struct {
	b      []byte
	room   int
	failed bool
}

func (out *writer) message(m api.Msg) {
	out.num(m.Kind)
	out.num(m.From)
	out.num(m.View)
	out.num(m.Seq)
	out.text(m.Body)
	writeList(out, m.Proofs, out.proof)
	writeList(out, m.Changes, out.change)
}

func (out *writer) proof(p api.Proof) {
	out.num(p.View)
	out.num(p.Seq)
	out.text(p.Body)
	writeList(out, p.From, out.num)
}

func (out *writer) change(c api.Change) {
	out.num(c.From)
	out.num(c.View)
	writeList(out, c.Proofs, out.proof)
}

func (out *writer) answer(a api.Answer) {
	out.num(a.Code)
	out.num(a.N)
	writeList(out, a.Names, out.text)
	writeList(out, a.Keys, out.text)
	writeList(out, a.Entries, out.entry)
}

func (out *writer) entry(e api.Entry) {
	out.text(e.Path)
	out.num(e.Size)
	writeList(out, e.Keys, out.text)
}

func (out *writer) num(n int) {
	if n < 0 {
		out.failed = true
		return
	}
	out.put(wire.Num(nil, uint64(n)))
}

func (out *writer) text(s string) {
	if len(s) > api.MaxText {
		out.failed = true
		return
	}
	out.put(wire.Text(nil, s))
}

// put takes what wire wrote for itself: wire copies what it writes behind, and
// a message's bytes are too many to be copied with each number and text.
func (out *writer) put(piece []byte) {
	if out.failed || len(piece) > out.room {
		out.failed = true
		return
	}
	out.b = append(out.b, piece...)
	out.room -= len(piece)
}

// writeList writes how many there are, and each of them.
func writeList[T any](out *writer, l []T, write func(T)) {
	out.num(len(l))
	for _, x := range l {
		// An answer may have any number of elements that nobody will write.
		if out.failed {
			return
		}
		write(x)
	}
}
