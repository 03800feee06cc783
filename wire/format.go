package wire

import (
	"roundtable/api"
	"roundtable/verified"
)

// head stands before the bytes of each machine.
const head = "RTM\x01"

// bytesOf returns the bytes of a well-formed machine.
func bytesOf(m api.Machine) string {
	b := []byte(head)
	add := func(numbers ...int) {
		for _, n := range numbers {
			b = verified.AppendNumber(b, n)
		}
	}
	// Numbers from -1 on are written from 0 on.
	raised := func(l []int) {
		for _, n := range l {
			add(n + 1)
		}
	}
	add(m.N, m.Rounds, m.Ins, m.Outs)
	for _, l := range m.First {
		raised(l)
	}
	for _, row := range m.Out {
		for _, l := range row {
			add(len(l))
			raised(l)
		}
	}
	for _, row := range m.Symbols {
		for _, lists := range row {
			for _, l := range lists {
				add(l...)
			}
		}
	}
	add(len(m.Steps))
	for _, step := range m.Steps {
		add(step.Round, step.Proc)
		raised(step.Heard[:m.N])
		add(step.To)
	}
	return verified.Sealed(b)
}

// reader reads numbers; behind a failure it reads zeros.
type reader struct {
	rest   string
	failed bool
}

// number reads a number with the least number of bytes, of which there are at most four.
func (r *reader) number() int {
	n := 0
	for i := range min(len(r.rest), 4) {
		b := int(r.rest[i])
		n |= b & 127 << (7 * i)
		if b < 128 {
			if b == 0 && i > 0 {
				break
			}
			r.rest = r.rest[i+1:]
			return n
		}
	}
	r.failed = true
	return 0
}

// lowered reads a number that was raised by 1.
func (r *reader) lowered() int { return r.number() - 1 }

// length reads a number that is not greater than that of the bytes behind it.
func (r *reader) length() int {
	n := r.number()
	if n > len(r.rest) {
		r.failed = true
		return 0
	}
	return n
}

// repeat reads some numbers in the same way.
func (r *reader) repeat(count int, read func() int) []int {
	l := make([]int, 0, count)
	for range count {
		l = append(l, read())
		if r.failed {
			return nil
		}
	}
	return l
}

// machine reads a machine, which may be not well-formed.
func (r *reader) machine() api.Machine {
	m := api.Machine{N: r.number(), Rounds: r.number(), Ins: r.number(), Outs: r.number()}
	if r.failed || m.N < 1 || m.N > api.MaxProcs || m.Rounds > api.MaxRounds || m.Ins > api.MaxValues {
		r.failed = true
		return m
	}
	for range m.N {
		m.First = append(m.First, r.repeat(m.Ins, r.lowered))
	}
	for k := range m.Rounds + 1 {
		m.Out = append(m.Out, nil)
		for range m.N {
			m.Out[k] = append(m.Out[k], r.repeat(r.length(), r.lowered))
		}
	}
	for k := range m.Rounds {
		row := make([][][]int, m.N)
		for p := range row {
			row[p] = make([][]int, m.N)
			for q := range row[p] {
				if p != q {
					row[p][q] = r.repeat(len(m.Out[k][p]), r.number)
				}
			}
		}
		m.Symbols = append(m.Symbols, row)
	}
	for range r.length() {
		step := api.Step{Round: r.number(), Proc: r.number(), Heard: [api.MaxProcs]int{-1, -1, -1, -1, -1}}
		copy(step.Heard[:], r.repeat(m.N, r.lowered))
		step.To = r.number()
		m.Steps = append(m.Steps, step)
	}
	return m
}
