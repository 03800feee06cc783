package parser

import "roundtable/api"

func (r *reader) program() api.Syntax {
	tree := api.Syntax{Kind: api.NodeProgram, At: r.expect("processes").At}
	tree.Num = r.number().Num
	r.expect(";")
	for r.peek().Kind != api.TokenEnd {
		tree.Kids = append(tree.Kids, r.declaration())
		r.expect(";")
	}
	return tree
}

func (r *reader) declaration() api.Syntax {
	switch {
	case r.is("task"):
		return r.task()
	case r.is("adversary"):
		return r.definition(api.NodeAdversary, r.scheme)
	case r.is("formula"):
		return r.definition(api.NodeFormula, r.formula)
	}
	return r.problem()
}

func (r *reader) task() api.Syntax {
	tree := api.Syntax{Kind: api.NodeTask, At: r.next().At, Text: r.word()}
	r.expect("inputs")
	tree.Num = r.number().Num
	r.expect("outputs")
	tree.Kids = append(tree.Kids, r.number())
	clause := func(kind int, word string) {
		at := r.expect(word).At
		tree.Kids = append(tree.Kids, api.Syntax{Kind: kind, At: at, Kids: []api.Syntax{r.condition()}})
	}
	if r.is("where") {
		clause(api.NodeWhere, "where")
	}
	clause(api.NodeAllow, "allow")
	if r.is("calm") {
		clause(api.NodeCalm, "calm")
	}
	return tree
}

// definition reads a declaration of the form word name = construct.
func (r *reader) definition(kind int, construct func() api.Syntax) api.Syntax {
	tree := api.Syntax{Kind: kind, At: r.next().At, Text: r.word()}
	r.expect("=")
	tree.Kids = []api.Syntax{construct()}
	return tree
}

func (r *reader) problem() api.Syntax {
	tree := api.Syntax{Kind: api.NodeProblem, At: r.expect("problem").At, Text: r.word()}
	r.expect("=")
	tree.Kids = append(tree.Kids, r.name())
	r.expect("under")
	tree.Kids = append(tree.Kids, r.name())
	r.expect("rounds")
	tree.Num = r.number().Num
	return tree
}

func (r *reader) condition() api.Syntax { return r.operators(r.conjunction, "or") }

func (r *reader) conjunction() api.Syntax { return r.operators(r.negation, "and") }

func (r *reader) negation() api.Syntax {
	switch {
	case r.is("not"):
		return r.not(r.negation)
	case r.is("all"), r.is("some"):
		t := r.next()
		name := r.name()
		r.expect(":")
		return api.Syntax{Kind: api.NodeQuantor, Text: t.Text, At: t.At, Kids: []api.Syntax{name, r.level(r.condition)}}
	}
	return r.comparison()
}

func (r *reader) comparison() api.Syntax {
	tree := r.sum()
	if r.one([]string{"=", "!=", "<", "<="}) {
		operator := r.next().Text
		tree = binary(operator, 0, tree, r.sum())
	}
	return tree
}

func (r *reader) sum() api.Syntax { return r.operators(r.unit, "+", "-") }

func (r *reader) unit() api.Syntax {
	switch {
	case r.peek().Kind == api.TokenNumber:
		return r.number()
	case r.is("in"), r.is("out"):
		return r.call(r.sum)
	case r.is("hears"):
		return r.call(r.sum, r.sum)
	case r.is("count"):
		t := r.next()
		name := r.name()
		return api.Syntax{Kind: api.NodeQuantor, Text: t.Text, At: t.At, Kids: []api.Syntax{name, r.parenthesis(r.condition)}}
	case r.is("("):
		return r.parenthesis(r.condition)
	}
	return r.name()
}

func (r *reader) scheme() api.Syntax { return r.operators(r.term, "or") }

func (r *reader) term() api.Syntax { return r.operators(r.factor, "and") }

func (r *reader) factor() api.Syntax {
	tree := r.atom()
	if !r.is("then") {
		return tree
	}
	r.next()
	rounds := r.number().Num
	return binary("then", rounds, tree, r.level(r.factor))
}

func (r *reader) atom() api.Syntax {
	switch {
	case r.one([]string{"crash", "send", "receive", "omit", "partition"}):
		return r.call(r.number)
	case r.is("snapshot"):
		return r.call()
	case r.is("graphs"):
		return r.call(r.condition)
	case r.is("("):
		return r.parenthesis(r.scheme)
	}
	return r.name()
}

func (r *reader) formula() api.Syntax {
	tree := r.disjunction()
	if !r.is("until") {
		return tree
	}
	r.next()
	return binary("until", 0, tree, r.level(r.formula))
}

func (r *reader) disjunction() api.Syntax { return r.operators(r.meet, "or") }

func (r *reader) meet() api.Syntax { return r.operators(r.literal, "and") }

func (r *reader) literal() api.Syntax {
	switch {
	case r.is("not"):
		return r.not(r.literal)
	case r.is("true"):
		return r.call()
	case r.is("("):
		return r.parenthesis(r.formula)
	case r.one([]string{"given", "faulty", "at"}):
		return r.call(r.number)
	case r.one([]string{"input", "heard", "decided"}):
		return r.call(r.number, r.number)
	case r.is("K"):
		return r.call(r.number, r.formula)
	case r.one([]string{"E", "D", "C"}):
		return r.call(r.set, r.formula)
	case !r.one([]string{"next", "always", "eventually"}):
		r.fail()
	}
	return r.call(r.formula)
}

func (r *reader) set() api.Syntax {
	if r.is("everyone") {
		t := r.next()
		return api.Syntax{Kind: api.NodeSet, Text: t.Text, At: t.At}
	}
	tree := api.Syntax{Kind: api.NodeSet, At: r.expect("{").At}
	if r.is("}") {
		r.next()
		return tree
	}
	tree.Kids = append(tree.Kids, r.number())
	for r.is(",") {
		r.next()
		tree.Kids = append(tree.Kids, r.number())
	}
	r.expect("}")
	return tree
}
