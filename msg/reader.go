package msg

import (
	"math"

	"becket/api"
	"becket/wire"
)

// Limits of an answer that is read.
const (
	maxNumber = math.MaxInt32
	maxList   = 1 << 16
)

// reader goes through bytes. Once something isn't there it tells zero values,
// so that whoever reads asks only once, at the end, whether all was there.
type reader struct {
	b      []byte
	at     int
	failed bool
}

// isDone tells whether all was there, and nothing is left.
func (in *reader) isDone() bool { return !in.failed && in.at == len(in.b) }

// message reads what may be a message. The limits keep numbers within an int,
// and keep bytes that are none from taking memory; mayBe says the rest.
func (in *reader) message() api.Msg {
	var m api.Msg
	m.Kind = in.num(api.MsgReply)
	m.From = in.node()
	m.View = in.num(api.MaxView)
	m.Seq = in.num(api.MaxTime)
	m.Body = in.text()
	m.Proofs = readList(in, api.MaxSeq, in.proof)
	m.Changes = readList(in, api.MaxNodes, in.change)
	return m
}

func (in *reader) proof() api.Proof {
	var p api.Proof
	p.View = in.num(api.MaxView)
	p.Seq = in.num(api.MaxSeq)
	p.Body = in.text()
	p.From = readList(in, api.MaxNodes, in.node)
	return p
}

func (in *reader) node() int { return in.num(api.MaxNodes - 1) }

func (in *reader) change() api.Change {
	var c api.Change
	c.From = in.node()
	c.View = in.num(api.MaxView)
	c.Proofs = readList(in, api.MaxSeq, in.proof)
	return c
}

func (in *reader) answer() api.Answer {
	var a api.Answer
	a.Code = in.num(maxNumber)
	a.N = in.num(maxNumber)
	a.Names = readList(in, maxList, in.text)
	a.Keys = readList(in, maxList, in.text)
	a.Entries = readList(in, maxList, in.entry)
	return a
}

func (in *reader) entry() api.Entry {
	var e api.Entry
	e.Path = in.text()
	e.Size = in.num(maxNumber)
	e.Keys = readList(in, maxList, in.text)
	return e
}

func (in *reader) num(most uint64) int {
	if in.failed {
		return 0
	}
	n, next, err := wire.GetNum(in.b, in.at, most)
	if err != nil {
		in.failed = true
		return 0
	}
	in.at = next
	return int(n)
}

func (in *reader) text() string {
	if in.failed {
		return ""
	}
	s, next, err := wire.GetText(in.b, in.at, api.MaxText)
	if err != nil {
		in.failed = true
		return ""
	}
	in.at = next
	return s
}

// readList reads how many there are, and so many.
func readList[T any](in *reader, most uint64, read func() T) []T {
	var l []T
	for range in.num(most) {
		// A count may tell of more than there is.
		if in.failed {
			return nil
		}
		l = append(l, read())
	}
	return l
}
