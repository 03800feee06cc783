package simulate

import (
	"fmt"
	"slices"
	"testing"

	"roundtable/api"
	"roundtable/decide"
	"roundtable/execution"
	"roundtable/failure"
	"roundtable/library"
	"roundtable/machine"
	"roundtable/rule"
	"roundtable/wire"
)

func want(t *testing.T, what string, got, wanted any) {
	t.Helper()
	if fmt.Sprint(got) != fmt.Sprint(wanted) {
		t.Errorf("%s: got %v, want %v", what, got, wanted)
	}
}

// example returns the machine of the example of layer 54.
func example() api.Machine {
	step := func(proc, a, b, to int) api.Step {
		return api.Step{Proc: proc, Heard: [5]int{a, b, -1, -1, -1}, To: to}
	}
	return api.Machine{N: 2, Rounds: 1, Ins: 2, Outs: 2, First: [][]int{{0, -1}, {0, 1}}, Symbols: [][][][]int{{{nil, {0}}, {{0, 0}, nil}}},
		Steps: []api.Step{step(0, 0, -1, 0), step(0, 0, 0, 0), step(1, 0, 0, 0), step(1, 0, 1, 1)}, Out: [][][]int{{{-1}, {-1, -1}}, {{-1}, {-1, 1}}}}
}

func full() []api.Round {
	return []api.Round{{Graph: api.Graph{N: 2, Hears: [5]int{3, 3}}}}
}

const text = `inputs 0 1
states 0 1
round 1: 01 01
from 0 to 1: 000001000007
from 1 to 0: 000100000006
states 0 1
process 0 does not decide
process 1 decides 1 at 1
`

func TestExamples(t *testing.T) {
	m := example()
	x, e := Run(m, []int{0, 1}, full())
	want(t, "Run", []any{x.States, x.Decisions, x.Times, e, Check(x), Replay(m, x)}, []any{[][]int{{0, 1}, {0, 1}}, []int{-1, 1}, []int{-1, 1}, api.OK, api.OK, api.OK})
	want(t, "messages", x.Messages, []api.Message{{Round: 0, From: 0, To: 1, Bytes: "\x00\x00\x01\x00\x00\x07"}, {Round: 0, From: 1, To: 0, Bytes: "\x00\x01\x00\x00\x00\x06"}})
	n, e := Bytes(x)
	want(t, "Bytes", []any{n, e}, []any{12, api.OK})
	s, e := Format(x)
	want(t, "Format", []any{s, e}, []any{text, api.OK})
	half := full()
	half[0].Graph.Hears[0] = 1
	half[0].Faulty = 2
	x, _ = Run(m, []int{0, 1}, half)
	s, _ = Format(x)
	want(t, "messages", []any{len(x.Messages), s[22:40]}, []any{1, "round 1: 0 01 !1\nf"})
}

func TestNoRounds(t *testing.T) {
	m := api.Machine{N: 2, Ins: 2, Outs: 2, First: [][]int{{0, 1}, {0, 1}}, Out: [][][]int{{{0, 1}, {0, -1}}}}
	x, e := Run(m, []int{0, 1}, nil)
	want(t, "Run", []any{e, len(x.Word), Check(x), Replay(m, x)}, []any{api.OK, 0, api.OK, api.OK})
	// A trace has the texts of its rounds one by one, so that of the empty word does not occur in it.
	s, e := Format(x)
	want(t, "Format", []any{s, e}, []any{"inputs 0 1\nstates 0 1\nprocess 0 decides 0 at 0\nprocess 1 does not decide\n", api.OK})
}

func TestCheck(t *testing.T) {
	m := example()
	for i, x := range []struct {
		change func(x *api.Trace)
		e      api.Errno
	}{
		{func(x *api.Trace) { x.Inputs = nil; x.Word = nil }, api.ErrRange}, {func(x *api.Trace) { x.Inputs = make([]int, 6) }, api.ErrRange}, {func(x *api.Trace) { x.Inputs[0] = 8; x.Word[0].Faulty = 9 }, api.ErrRange}, {func(x *api.Trace) { x.Word[0].Graph.Hears[0] = 2; x.States = nil }, api.ErrForm}, {func(x *api.Trace) { x.Inputs = []int{0} }, api.ErrMismatch}, {func(x *api.Trace) { x.Word = slices.Repeat(x.Word, 7); x.States = nil }, api.ErrMany},
		{func(x *api.Trace) { x.States = x.States[1:] }, api.ErrShape}, {func(x *api.Trace) { x.States[0][0] = -1; x.States[1] = nil }, api.ErrShape}, {func(x *api.Trace) { x.States[1][0] = -1; x.Messages = nil }, api.ErrRange}, {func(x *api.Trace) { x.States[1][0] = 1<<20 + 1 }, api.ErrRange}, {func(x *api.Trace) { x.Messages = x.Messages[1:] }, api.ErrShape}, {func(x *api.Trace) { x.Messages[0], x.Messages[1] = x.Messages[1], x.Messages[0] }, api.ErrOrder},
		{func(x *api.Trace) { x.Messages[0].Bytes = ""; x.Messages[1].Round = 5 }, api.ErrCorrupt}, {func(x *api.Trace) { x.Messages[0].Bytes = "\x00\x00\x01\x00\x00\x08" }, api.ErrCorrupt}, {func(x *api.Trace) { x.Messages[0].Bytes = x.Messages[1].Bytes }, api.ErrMismatch}, {func(x *api.Trace) { x.Messages[1].From = 0 }, api.ErrOrder},
		{func(x *api.Trace) { x.Decisions = nil; x.Times[0] = 9 }, api.ErrShape}, {func(x *api.Trace) { x.Times = x.Times[1:] }, api.ErrShape}, {func(x *api.Trace) { x.Times[1] = 2 }, api.ErrRange}, {func(x *api.Trace) { x.Times[1] = -2 }, api.ErrRange}, {func(x *api.Trace) { x.Decisions[1] = 8; x.Times[0] = 0 }, api.ErrForm}, {func(x *api.Trace) { x.Decisions[1] = 8 }, api.ErrRange}, {func(x *api.Trace) { x.Decisions[1] = -1 }, api.ErrForm}, {func(x *api.Trace) { x.Times[1] = -1 }, api.ErrForm},
	} {
		y, _ := Run(m, []int{0, 1}, full())
		x.change(&y)
		want(t, fmt.Sprint("Check ", i), Check(y), x.e)
		want(t, "Replay", Replay(m, y), x.e)
		_, e := Bytes(y)
		want(t, "Bytes", e, x.e)
		_, e = Format(y)
		want(t, "Format", e, x.e)
	}
	want(t, "Replay", Replay(api.Machine{}, api.Trace{}), api.ErrRange)
	for i, change := range []func(x *api.Trace){
		func(x *api.Trace) { x.States[0][0] = 7 }, func(x *api.Trace) { x.Messages[0].Bytes, _ = wire.Encode(other(), 0, 0, 1, 0) }, func(x *api.Trace) { x.Decisions[1] = 0 }, func(x *api.Trace) { x.Times[1] = 0 }, func(x *api.Trace) { x.Decisions[0], x.Times[0] = 0, 0 },
	} {
		y, _ := Run(m, []int{0, 1}, full())
		change(&y)
		want(t, fmt.Sprint("Replay ", i), []any{Check(y), Replay(m, y)}, []any{api.OK, api.ErrProof})
	}
	y, _ := Run(m, []int{0, 1}, full())
	y.Inputs[0] = 1
	want(t, "Replay", Replay(m, y), api.ErrGap)
	y.Inputs[0] = 5
	want(t, "Replay", Replay(m, y), api.ErrRange)
	_, e := Run(m, []int{0}, nil)
	want(t, "Run", e, api.ErrShape)
}

// other returns a machine with another symbol.
func other() api.Machine {
	m := example()
	m.Symbols[0][0][1] = []int{5}
	return m
}

func TestLong(t *testing.T) {
	// Symbols may have any number of bytes in a trace that no machine has.
	y, _ := Run(example(), []int{0, 1}, full())
	b := "\x00\x00\x01" + string(make([]byte, 40000))
	sum := wire.Checksum(b)
	y.Messages[0].Bytes = b + string([]byte{byte(sum >> 8), byte(sum)})
	_, e := Format(y)
	want(t, "Format", []any{Check(y), e}, []any{api.OK, api.ErrLong})
	n, _ := Bytes(y)
	want(t, "Bytes", n, 40011)
}

func TestConsequences(t *testing.T) {
	c, _ := library.Consensus(2, 2)
	crash, _ := failure.Crash(2, 1)
	s, _ := execution.Build(api.Problem{Task: c, Adversary: crash, Rounds: 2})
	_, r, _, _ := decide.Decide(s.Problem)
	m, _ := machine.Synthesize(s, r)
	for i, x := range s.Executions {
		y, e := Run(m, c.Cases[x.Case].In, x.Word)
		times, _ := rule.Times(s, r, i)
		decisions, _ := rule.Decisions(s, r, i)
		want(t, "Run", []any{e, Check(y), Replay(m, y), y.Times, y.Decisions}, []any{api.OK, api.OK, api.OK, times, decisions})
		for _, message := range y.Messages {
			symbol, e := wire.Decode(m, message.Round, message.From, message.To, message.Bytes)
			want(t, "Decode", []any{symbol, e}, []any{m.Symbols[message.Round][message.From][message.To][y.States[message.Round][message.From]], api.OK})
		}
	}
}
