package promises

import (
	"math/rand"
	"reflect"
	"testing"

	"roundtable/adversary"
	"roundtable/api"
	"roundtable/bisimulation"
	"roundtable/certificate"
	"roundtable/complex"
	"roundtable/console"
	"roundtable/decide"
	"roundtable/encode"
	"roundtable/execution"
	"roundtable/failure"
	"roundtable/library"
	"roundtable/machine"
	"roundtable/parser"
	"roundtable/protocol"
	"roundtable/resolve"
	"roundtable/search"
	"roundtable/simulate"
	"roundtable/subdivision"
)

// values keeps well-formed values of each type, with all of their parts, and makes others of them.
type values struct {
	random *rand.Rand
	known  map[reflect.Type][]reflect.Value
}

const source = "processes 2; task c inputs 2 outputs 2 where in(0) <= 1 allow all p: all q: out(p) = out(q) and some r: out(p) = in(r) calm out(0) < 2; adversary a = crash(1) or send(1) then 1 graphs(hears(0, 1)); formula f = K(0, given(0)) until C({0}, not next(at(1))); problem p = c under a rounds 1;"

func newValues(t *testing.T) *values {
	t.Helper()
	x := &values{rand.New(rand.NewSource(1)), map[reflect.Type][]reflect.Value{}}
	for n := 1; n <= 3; n++ {
		for _, name := range library.Names() {
			c, e := library.Get(name, n, n, 1)
			if e != api.OK {
				continue
			}
			for _, model := range []func(n, f int) (api.Adversary, api.Errno){failure.Crash, failure.Send, failure.Partition} {
				a, _ := model(n, 1)
				words, _ := adversary.Words(a, 2)
				x.add(a, words)
				for rounds := range 2 {
					x.addProblem(api.Problem{Task: c, Adversary: a, Rounds: rounds})
				}
			}
		}
	}
	d, _ := subdivision.Simplex([]api.Vertex{{}, {Color: 1}})
	tree, _, _ := parser.Parse(source)
	p, _, _ := resolve.Program(tree)
	state := console.Begin()
	for _, line := range []string{"load " + source, "use p", "decide", "run 0"} {
		state, _ = console.Do(state, line)
		x.add(line, state)
	}
	x.add(d, tree, p, source)
	return x
}

// addProblem adds a problem, with what can be made of it.
func (x *values) addProblem(p api.Problem) {
	s, e := execution.Build(p)
	if e != api.OK {
		return
	}
	clauses, _ := encode.Encode(s)
	verdict, r, proof, _ := decide.Decide(p)
	c, _, _ := certificate.Find(s)
	text, _ := certificate.Format(c)
	k, _ := protocol.Complex(s)
	simplices, _ := complex.Simplices(k, 2)
	structure, _ := bisimulation.Of(s)
	x.add(p, s, s, s, clauses, verdict, r, proof, c, text, k, simplices, structure)
	if m, e := machine.Synthesize(s, r); e == api.OK {
		in, word := p.Task.Cases[0].In, s.Executions[0].Word
		trace, _ := simulate.Run(m, in, word)
		x.add(m, trace, search.Play{Inputs: in, Word: word})
	}
}

func (x *values) add(l ...any) {
	for _, value := range l {
		x.addParts(reflect.ValueOf(value), 6)
	}
}

func (x *values) addParts(v reflect.Value, depth int) {
	if depth == 0 || len(x.known[v.Type()]) > 300 {
		return
	}
	x.known[v.Type()] = append(x.known[v.Type()], v)
	switch v.Kind() {
	case reflect.Slice, reflect.Array:
		for i := range min(v.Len(), 10) {
			x.addParts(v.Index(i), depth-1)
		}
	case reflect.Struct:
		for i := range v.NumField() {
			x.addParts(v.Field(i), depth-1)
		}
	}
}

// make returns a value of a type: one that is known, one that is nearly like it, or any one.
func (x *values) make(t reflect.Type, depth int) reflect.Value {
	known := x.known[t]
	if len(known) > 0 && t.Kind() != reflect.Int && x.random.Intn(4) > 0 {
		v := copied(known[x.random.Intn(len(known))])
		for x.random.Intn(3) == 0 {
			x.change(v)
		}
		return v
	}
	v := reflect.New(t).Elem()
	switch t.Kind() {
	case reflect.Int:
		v.SetInt(x.number())
	case reflect.Bool:
		v.SetBool(x.random.Intn(2) == 0)
	case reflect.String:
		const letters = "01 2,/()|{}:abpK!\n=<;"
		text := make([]byte, x.random.Intn(12))
		for i := range text {
			text[i] = letters[x.random.Intn(len(letters))]
		}
		v.SetString(string(text))
	case reflect.Slice:
		for range x.random.Intn(5) * min(4-depth, 1) {
			v.Set(reflect.Append(v, x.make(t.Elem(), depth+1)))
		}
	case reflect.Array:
		for i := range v.Len() {
			v.Index(i).Set(x.make(t.Elem(), depth+1))
		}
	case reflect.Struct:
		for i := range v.NumField() {
			v.Field(i).Set(x.make(t.Field(i).Type, depth+1))
		}
	}
	return v
}

func (x *values) number() int64 {
	special := []int64{-1 << 63, -1000, -2, -1, 5, 6, 7, 8, 9, 31, 32, 100, 1 << 20, 1<<20 + 1, 1 << 40, 1<<63 - 1}
	if x.random.Intn(3) == 0 {
		return special[x.random.Intn(len(special))]
	}
	return int64(x.random.Intn(5))
}

// change changes something inside of a value.
func (x *values) change(v reflect.Value) {
	switch v.Kind() {
	case reflect.Int:
		v.SetInt(v.Int() + int64(x.random.Intn(5)) - 2)
		if x.random.Intn(3) == 0 {
			v.SetInt(x.number())
		}
	case reflect.Bool:
		v.SetBool(!v.Bool())
	case reflect.String:
		text := []byte(v.String())
		if len(text) > 0 {
			text[x.random.Intn(len(text))] = byte(x.random.Intn(128))
		}
		v.SetString(string(text))
	case reflect.Slice:
		switch k := x.random.Intn(6); {
		case v.Len() == 0 || k == 0:
			v.Set(reflect.Append(v, x.make(v.Type().Elem(), 2)))
		case k == 1:
			v.Set(v.Slice(0, v.Len()-1))
		case k == 2:
			v.Set(reflect.Append(v, copied(v.Index(x.random.Intn(v.Len())))))
		default:
			x.change(v.Index(x.random.Intn(v.Len())))
		}
	case reflect.Array:
		x.change(v.Index(x.random.Intn(v.Len())))
	case reflect.Struct:
		x.change(v.Field(x.random.Intn(v.NumField())))
	}
}

// copied returns a copy of a value, whose slices have spare capacity.
func copied(v reflect.Value) reflect.Value {
	c := reflect.New(v.Type()).Elem()
	switch v.Kind() {
	case reflect.Slice:
		if !v.IsNil() {
			c.Set(reflect.MakeSlice(v.Type(), v.Len(), v.Len()+2))
		}
		for i := range v.Len() {
			c.Index(i).Set(copied(v.Index(i)))
		}
	case reflect.Array:
		for i := range v.Len() {
			c.Index(i).Set(copied(v.Index(i)))
		}
	case reflect.Struct:
		for i := range v.NumField() {
			c.Field(i).Set(copied(v.Field(i)))
		}
	default:
		c.Set(v)
	}
	return c
}
