package printer

import (
	"roundtable/api"
	"roundtable/lexer"
)

// The kinds of texts that a tree may have.
const (
	programText = iota
	declarationText
	whereText
	allowText
	calmText
	condText
	schemeText
	formulaText
	numberText
	nameText
	setText
)

// word is an operator or the word of a call, in a kind of text.
type word struct {
	kind int
	text string
}

// operator says how tightly an operator binds, and what it asks for of its operands.
type operator struct{ own, left, right int }

// The bindings of the parts of a grammar that are no operators.
const (
	negationBinding = 2
	sumBinding      = 4
	tightest        = 5
)

// grammar says which trees there are.
type grammar struct {
	operators map[word]operator
	calls     map[word][]int
	words     map[string]bool
}

func newGrammar() grammar {
	g := grammar{
		operators: map[word]operator{
			{condText, "or"}: {0, 0, 1}, {condText, "and"}: {1, 1, 2},
			{condText, "="}: {3, 4, 4}, {condText, "!="}: {3, 4, 4}, {condText, "<"}: {3, 4, 4}, {condText, "<="}: {3, 4, 4},
			{condText, "+"}: {4, 4, 5}, {condText, "-"}: {4, 4, 5},
			{schemeText, "or"}: {0, 0, 1}, {schemeText, "and"}: {1, 1, 2}, {schemeText, "then"}: {2, 5, 2},
			{formulaText, "until"}: {0, 1, 0}, {formulaText, "or"}: {1, 1, 2}, {formulaText, "and"}: {2, 2, 5},
		},
		calls: map[word][]int{
			{condText, "in"}: {condText}, {condText, "out"}: {condText}, {condText, "hears"}: {condText, condText},
			{schemeText, "snapshot"}: {}, {schemeText, "graphs"}: {condText}, {formulaText, "true"}: {},
			{formulaText, "K"}: {numberText, formulaText},
		},
		words: map[string]bool{},
	}
	for _, text := range []string{"crash", "send", "receive", "omit", "partition"} {
		g.calls[word{schemeText, text}] = []int{numberText}
	}
	for _, text := range []string{"given", "faulty", "at"} {
		g.calls[word{formulaText, text}] = []int{numberText}
	}
	for _, text := range []string{"input", "heard", "decided"} {
		g.calls[word{formulaText, text}] = []int{numberText, numberText}
	}
	for _, text := range []string{"E", "D", "C"} {
		g.calls[word{formulaText, text}] = []int{setText, formulaText}
	}
	for _, text := range []string{"next", "always", "eventually"} {
		g.calls[word{formulaText, text}] = []int{formulaText}
	}
	for call := range g.calls {
		g.words[call.text] = true
	}
	return g
}

// negation returns what not asks for of its operand.
func (g grammar) negation(kind int) int {
	if kind == condText {
		return negationBinding
	}
	return tightest
}

// argument returns what the calls in a kind of text ask for of their arguments.
func (g grammar) argument(kind int) int {
	if kind == condText {
		return sumBinding
	}
	return 0
}

// binding says how tightly the construct of a tree binds.
func (g grammar) binding(t api.Syntax, kind int) int {
	switch {
	case t.Kind == api.NodeBinary:
		return g.operators[word{kind, t.Text}].own
	case kind == condText && (t.Kind == api.NodeNot || t.Kind == api.NodeQuantor && t.Text != "count"):
		return negationBinding
	}
	return tightest
}

// fits reports whether a tree is one of a kind, and how many nodes it has.
func (g grammar) fits(t api.Syntax, kind int) (int, bool) {
	type place struct {
		tree api.Syntax
		kind int
	}
	nodes := 0
	// A stack of its own, as trees of any depth are permitted here.
	for stack := []place{{t, kind}}; len(stack) > 0; nodes++ {
		top := stack[len(stack)-1]
		stack = stack[:len(stack)-1]
		kinds, ok := g.parts(top.tree, top.kind)
		if !ok || len(kinds) != len(top.tree.Kids) {
			return 0, false
		}
		for i, kid := range top.tree.Kids {
			stack = append(stack, place{kid, kinds[i]})
		}
	}
	return nodes, true
}

// parts returns the kinds of texts that the kids of a node must have, and whether the node itself is right.
func (g grammar) parts(t api.Syntax, kind int) ([]int, bool) {
	plain := t.Text == "" && t.Num == 0
	named := lexer.Name(t.Text) == api.OK
	number := t.Num >= 0 && t.Num <= api.MaxNumber
	switch t.Kind {
	case api.NodeProgram:
		return repeat(declarationText, len(t.Kids)), kind == programText && t.Text == "" && number
	case api.NodeTask:
		return taskParts(t), kind == declarationText && named && number
	case api.NodeWhere:
		return []int{condText}, kind == whereText && plain
	case api.NodeAllow:
		return []int{condText}, kind == allowText && plain
	case api.NodeCalm:
		return []int{condText}, kind == calmText && plain
	case api.NodeAdversary:
		return []int{schemeText}, kind == declarationText && named && t.Num == 0
	case api.NodeFormula:
		return []int{formulaText}, kind == declarationText && named && t.Num == 0
	case api.NodeProblem:
		return []int{nameText, nameText}, kind == declarationText && named && number
	case api.NodeName:
		return nil, (kind == nameText || kind == condText || kind == schemeText) && named && t.Num == 0
	case api.NodeNumber:
		return nil, (kind == numberText || kind == condText) && t.Text == "" && number
	case api.NodeCall:
		kinds, ok := g.calls[word{kind, t.Text}]
		return kinds, ok && t.Num == 0
	case api.NodeBinary:
		_, ok := g.operators[word{kind, t.Text}]
		return []int{kind, kind}, ok && number && (t.Num == 0 || t.Text == "then")
	case api.NodeNot:
		return []int{kind}, (kind == condText || kind == formulaText) && plain
	case api.NodeQuantor:
		return []int{nameText, condText}, kind == condText && t.Num == 0 && (t.Text == "all" || t.Text == "some" || t.Text == "count")
	case api.NodeSet:
		if t.Text == "everyone" {
			return nil, kind == setText && t.Num == 0
		}
		return repeat(numberText, len(t.Kids)), kind == setText && plain
	}
	return nil, false
}

func repeat(kind, n int) []int {
	l := make([]int, n)
	for i := range l {
		l[i] = kind
	}
	return l
}

// taskParts returns the kinds of the kids of a task, which may have a where and a calm condition.
func taskParts(t api.Syntax) []int {
	kinds := []int{numberText}
	if len(t.Kids) > 1 && t.Kids[1].Kind == api.NodeWhere {
		kinds = append(kinds, whereText)
	}
	kinds = append(kinds, allowText)
	if len(t.Kids) > len(kinds) {
		kinds = append(kinds, calmText)
	}
	return kinds
}
