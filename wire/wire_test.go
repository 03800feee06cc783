package wire

import (
	"fmt"
	"strings"
	"testing"

	"roundtable/api"
	"roundtable/decide"
	"roundtable/execution"
	"roundtable/failure"
	"roundtable/library"
	"roundtable/machine"
)

func want(t *testing.T, what string, got, wanted any) {
	t.Helper()
	if fmt.Sprint(got) != fmt.Sprint(wanted) {
		t.Errorf("%s: got %v, want %v", what, got, wanted)
	}
}

// example returns the machine of the example of layer 54.
func example() api.Machine {
	step := func(proc, a, b, to int) api.Step {
		return api.Step{Proc: proc, Heard: [5]int{a, b, -1, -1, -1}, To: to}
	}
	return api.Machine{N: 2, Rounds: 1, Ins: 2, Outs: 2, First: [][]int{{0, -1}, {0, 1}}, Symbols: [][][][]int{{{nil, {0}}, {{0, 0}, nil}}},
		Steps: []api.Step{step(0, 0, -1, 0), step(0, 0, 0, 0), step(1, 0, 0, 0), step(1, 0, 1, 1)}, Out: [][][]int{{{-1}, {-1, -1}}, {{-1}, {-1, 1}}}}
}

func TestExamples(t *testing.T) {
	want(t, "Checksum", []int{Checksum("\x01\x02\x03"), Checksum(""), Checksum(strings.Repeat("\xff", 70000))}, []int{17, 0, (70000 + 70000*70001/2*255) % 65521})
	m := example()
	b, e := Encode(m, 0, 1, 0, 1)
	want(t, "Encode", []any{[]byte(b), e}, []any{[]byte{0, 1, 0, 0, 0, 6}, api.OK})
	s, e := Decode(m, 0, 1, 0, b)
	want(t, "Decode", []any{s, e}, []any{0, api.OK})
	_, e = Decode(m, 0, 1, 0, b[:5]+"\x07")
	want(t, "Decode", e, api.ErrCorrupt)
	_, e = Decode(m, 0, 0, 1, b)
	want(t, "Decode", e, api.ErrMismatch)
	m.Symbols[0][1][0] = []int{300, 1 << 20}
	b, _ = Encode(m, 0, 1, 0, 0)
	want(t, "Encode", []byte(b)[:5], []byte{0, 1, 0, 172, 2})
	n, e := Length(m, 0, 1, 0)
	want(t, "Length", []any{n, e}, []any{8, api.OK})
	s, _ = Decode(m, 0, 1, 0, b)
	want(t, "Decode", s, 300)
	small := api.Machine{N: 1, Ins: 1, Outs: 2, First: [][]int{{0}}, Out: [][][]int{{{1}}}}
	b, e = Machine(small)
	want(t, "Machine", []any{[]byte(b[:len(b)-2]), e}, []any{[]byte{'R', 'T', 'M', 1, 1, 0, 1, 2, 1, 1, 2, 0}, api.OK})
	empty := api.Machine{N: 2, Rounds: 1, Ins: 1, Outs: 1, First: [][]int{{-1}, {-1}}, Symbols: [][][][]int{{{nil, nil}, {nil, nil}}}, Out: [][][]int{{nil, nil}, {nil, nil}}}
	n, e = Length(empty, 0, 0, 1)
	want(t, "Length", []any{n, e}, []any{0, api.OK})
}

// sealed returns bytes with their checksum.
func sealed(b string) string {
	sum := Checksum(b)
	return b + string([]byte{byte(sum >> 8), byte(sum)})
}

func TestErrors(t *testing.T) {
	m := example()
	for i, x := range []struct {
		m           api.Machine
		k, from, to int
		e           api.Errno
	}{{api.Machine{}, 9, 9, 9, api.ErrRange}, {m, -1, 0, 1, api.ErrRange}, {m, 1, 0, 1, api.ErrRange}, {m, 0, 2, 0, api.ErrRange}, {m, 0, 0, -1, api.ErrRange}, {m, 0, 1, 1, api.ErrUse}} {
		_, e := Encode(x.m, x.k, x.from, x.to, 99)
		want(t, fmt.Sprint("Encode ", i), e, x.e)
		_, e = Decode(x.m, x.k, x.from, x.to, "")
		want(t, fmt.Sprint("Decode ", i), e, x.e)
		_, e = Length(x.m, x.k, x.from, x.to)
		want(t, fmt.Sprint("Length ", i), e, x.e)
	}
	for _, state := range []int{-1, 2} {
		_, e := Encode(m, 0, 1, 0, state)
		want(t, "Encode", e, api.ErrNone)
	}
	for i, x := range []struct {
		b string
		e api.Errno
	}{
		{"", api.ErrCorrupt}, {"\x00\x01\x00\x00\x06", api.ErrCorrupt}, {sealed("\x00\x01\x00"), api.ErrCorrupt}, {sealed("\x05\x01\x00\x80\x00"), api.ErrForm}, {sealed("\x00\x01\x00\x80"), api.ErrForm}, {sealed("\x00\x01\x00\x00\x00"), api.ErrForm}, {sealed("\x00\x01\x00\x81\x80\x40"), api.ErrForm},
		{sealed("\x00\x01\x00\xff\xff\xff\xff\xff\xff\xff\xff\xff\x01"), api.ErrForm}, {sealed("\x05\x01\x00\x00"), api.ErrMismatch}, {sealed("\x00\x01\x00\x01"), api.ErrNone}, {sealed("\x00\x01\x00\x80\x80\x40"), api.ErrNone}, {sealed("\x00\x01\x00\x00"), api.OK},
	} {
		_, e := Decode(m, 0, 1, 0, x.b)
		want(t, fmt.Sprint("Decode ", i), e, x.e)
	}
	_, e := Machine(api.Machine{})
	want(t, "Machine", e, api.ErrRange)
	big := m
	big.Steps = nil
	for k := range 12000 {
		big.Steps = append(big.Steps, api.Step{Heard: [5]int{0, k, -1, -1, -1}})
	}
	_, e = Machine(big)
	want(t, "Machine", e, api.ErrLong)
	_, e = Parse(strings.Repeat("x", api.MaxText+1))
	want(t, "Parse", e, api.ErrLong)
	good, _ := Machine(m)
	for i, x := range []struct {
		b string
		e api.Errno
	}{
		{"", api.ErrCorrupt}, {good[:len(good)-1], api.ErrCorrupt}, {sealed("RTM\x02"), api.ErrForm}, {sealed("RTM1\x01\x00\x01\x02"), api.ErrForm}, {sealed("RTM\x01"), api.ErrForm}, {sealed(good[:len(good)-2] + "\x00"), api.ErrForm}, {sealed(good[:len(good)-3]), api.ErrForm}, {sealed("RTM\x01\x01\x00\x01\x02\x01\xff\xff\x7f"), api.ErrForm}, {sealed("RTM\x01\x81\x00\x00\x01\x02\x01\x01\x02\x00"), api.ErrForm}, {sealed("RTM\x01\x01\x00\x01\x02\x01\x01\x02\x00"), api.OK}, {sealed("RTM\x01\x01\x00\x01\x02\x02\x01\x02\x00"), api.OK}, {sealed("RTM\x01\x01\x00\x01\x02\x03\x01\x02\x00"), api.ErrForm},
	} {
		_, e := Parse(x.b)
		if i == 10 {
			x.e = api.ErrForm // there is no state 1
		}
		want(t, fmt.Sprint("Parse ", i), e, x.e)
	}
}

func TestConsequences(t *testing.T) {
	c, _ := library.Consensus(2, 2)
	crash, _ := failure.Crash(2, 1)
	s, _ := execution.Build(api.Problem{Task: c, Adversary: crash, Rounds: 2})
	_, r, _, _ := decide.Decide(s.Problem)
	m, _ := machine.Synthesize(s, r)
	for _, x := range []api.Machine{m, example()} {
		b, e := Machine(x)
		want(t, "Machine", e, api.OK)
		back, e := Parse(b)
		want(t, "Parse", []any{machine.Same(back, x), e}, []any{true, api.OK})
		for i := range len(b) {
			damaged := []byte(b)
			damaged[i] ^= 1 << (i % 8)
			if _, e := Parse(string(damaged)); e != api.ErrCorrupt {
				t.Errorf("byte %d: %v", i, e)
			}
			if i > 0 && b[i] != b[i-1] {
				damaged = []byte(b)
				damaged[i], damaged[i-1] = b[i-1], b[i]
				if _, e := Parse(string(damaged)); e != api.ErrCorrupt {
					t.Errorf("bytes %d and %d exchanged: %v", i-1, i, e)
				}
			}
		}
		for k := range x.Rounds {
			for p := range x.N {
				q := 1 - p
				for state, symbol := range x.Symbols[k][p][q] {
					b, _ := Encode(x, k, p, q, state)
					n, _ := Length(x, k, p, q)
					got, e := Decode(x, k, p, q, b)
					want(t, "Decode", []any{got, e, len(b) <= n}, []any{symbol, api.OK, true})
				}
			}
		}
	}
}
