package rules

import (
	"math/rand"
	"slices"
	"testing"

	"concierge/api"
	"concierge/lang"
)

// The calls as the chapter lists them: another signature does not compile.
var (
	_ func(s api.Schema) api.Fault                        = Check
	_ func(s api.Schema, typ, rel string) (api.Rel, bool) = Find
	_ func(s api.Schema) ([][]int, bool)                  = Levels
)

func rel(name string) api.Expr { return api.Expr{Kind: api.ERel, Name: name} }

func arrow(name, over string) api.Expr { return api.Expr{Kind: api.EArrow, Name: name, Over: over} }

func or(a, b api.Expr) api.Expr  { return api.Expr{Kind: api.EOr, Kids: []api.Expr{a, b}} }
func and(a, b api.Expr) api.Expr { return api.Expr{Kind: api.EAnd, Kids: []api.Expr{a, b}} }
func not(a, b api.Expr) api.Expr { return api.Expr{Kind: api.ENot, Kids: []api.Expr{a, b}} }

func direct(name string, refs ...api.Ref) api.Rel { return api.Rel{Name: name, Refs: refs} }

func defined(name string, e api.Expr) api.Rel { return api.Rel{Name: name, Expr: e} }

func typ(name string, rels ...api.Rel) api.Type { return api.Type{Name: name, Rels: rels} }

func schema(types ...api.Type) api.Schema { return api.Schema{Types: types} }

// parsed is the schema of a text.
func parsed(t *testing.T, text string) api.Schema {
	t.Helper()
	s, d := lang.Parse(text)
	if d != (api.Diag{}) {
		t.Fatalf("%q: %v", text, d)
	}
	return s
}

func sameExpr(a, b api.Expr) bool {
	return a.Kind == b.Kind && a.Name == b.Name && a.Over == b.Over && slices.EqualFunc(a.Kids, b.Kids, sameExpr)
}

func sameRel(a, b api.Rel) bool {
	return a.Name == b.Name && slices.Equal(a.Refs, b.Refs) && sameExpr(a.Expr, b.Expr)
}

func sameType(a, b api.Type) bool {
	return a.Name == b.Name && slices.EqualFunc(a.Rels, b.Rels, sameRel)
}

func same(a, b api.Schema) bool { return slices.EqualFunc(a.Types, b.Types, sameType) }

func sameLevels(a, b [][]int) bool { return slices.EqualFunc(a, b, slices.Equal[[]int]) }

func copyOf(s api.Schema) api.Schema {
	out := api.Schema{Types: slices.Clone(s.Types)}
	for i := range out.Types {
		rels := slices.Clone(out.Types[i].Rels)
		for k := range rels {
			rels[k].Refs = slices.Clone(rels[k].Refs)
			rels[k].Expr = copyOfExpr(rels[k].Expr)
		}
		out.Types[i].Rels = rels
	}
	return out
}

func copyOfExpr(e api.Expr) api.Expr {
	e.Kids = slices.Clone(e.Kids)
	for i := range e.Kids {
		e.Kids[i] = copyOfExpr(e.Kids[i])
	}
	return e
}

// The model lists all faults in the chapter's order, and finds the levels in a table of the greatest numbers of negative dependencies between each two relations.

// modelType is the number of the first type with a name, or -1.
func modelType(s api.Schema, name string) int {
	for i, t := range s.Types {
		if t.Name == name {
			return i
		}
	}
	return -1
}

// modelRel is the number of the first relation with a name of a type, or -1.
func modelRel(s api.Schema, typ, name string) int {
	i := modelType(s, typ)
	if i < 0 {
		return -1
	}
	for j, r := range s.Types[i].Rels {
		if r.Name == name {
			return j
		}
	}
	return -1
}

type modelLeaf struct {
	e        api.Expr
	negative bool
}

// modelLeaves are the leaves of an expression, from left to right.
func modelLeaves(e api.Expr) []modelLeaf {
	var l []modelLeaf
	open := []modelLeaf{{e, false}}
	for len(open) > 0 {
		x := open[len(open)-1]
		open = open[:len(open)-1]
		switch x.e.Kind {
		case api.ERel, api.EArrow:
			l = append(l, x)
		default:
			open = append(open, modelLeaf{x.e.Kids[1], x.negative || x.e.Kind == api.ENot}, modelLeaf{x.e.Kids[0], x.negative})
		}
	}
	return l
}

// modelForm is the faults of form, size and repetition.
func modelForm(s api.Schema) []api.Fault {
	var l []api.Fault
	if !lang.May(s) || len(s.Types) == 0 {
		l = append(l, api.Fault{Type: 0, Rel: -1, E: api.ErrArg})
	}
	if len(s.Types) > 16 {
		l = append(l, api.Fault{Type: 0, Rel: -1, E: api.ErrLong})
	}
	for i, t := range s.Types {
		if len(t.Rels) > 16 {
			l = append(l, api.Fault{Type: i, Rel: -1, E: api.ErrLong})
		}
	}
	for i, t := range s.Types {
		if modelType(s, t.Name) < i {
			l = append(l, api.Fault{Type: i, Rel: -1, E: api.ErrTwice})
		}
	}
	for i, t := range s.Types {
		for j, r := range t.Rels {
			if modelRel(api.Schema{Types: s.Types[i : i+1]}, t.Name, r.Name) < j {
				l = append(l, api.Fault{Type: i, Rel: j, E: api.ErrTwice})
			}
		}
	}
	return l
}

// modelUnknown is the faults of what the relations name, in a schema without other ones.
func modelUnknown(s api.Schema) []api.Fault {
	var l []api.Fault
	for i, t := range s.Types {
		for j, r := range t.Rels {
			add := func(wrong bool, e api.Errno) bool {
				if wrong {
					l = append(l, api.Fault{Type: i, Rel: j, E: e})
				}
				return wrong
			}
			for _, ref := range r.Refs {
				add(modelType(s, ref.Type) < 0 || ref.Rel != "" && modelRel(s, ref.Type, ref.Rel) < 0, api.ErrName)
			}
			if len(r.Refs) > 0 {
				continue
			}
			for _, leaf := range modelLeaves(r.Expr) {
				k := modelRel(s, t.Name, leaf.e.Name)
				if add(k < 0, api.ErrName) || leaf.e.Kind == api.ERel {
					continue
				}
				if add(len(t.Rels[k].Refs) == 0, api.ErrType) {
					continue
				}
				some := slices.ContainsFunc(t.Rels[k].Refs, func(ref api.Ref) bool {
					return ref.Rel == "" && modelRel(s, ref.Type, leaf.e.Over) >= 0
				})
				add(!some, api.ErrName)
			}
		}
	}
	return l
}

type modelEdge struct {
	from, on int
	negative bool
}

// modelNumbers gives each relation a number: those of a type begin at the first result's.
func modelNumbers(s api.Schema) (first []int, all int) {
	for _, t := range s.Types {
		first = append(first, all)
		all += len(t.Rels)
	}
	return first, all
}

// modelEdges are the dependencies of a schema all of whose names are known.
func modelEdges(s api.Schema) []modelEdge {
	var l []modelEdge
	first, _ := modelNumbers(s)
	add := func(from int, typ, rel string, negative bool) {
		if k := modelRel(s, typ, rel); k >= 0 {
			l = append(l, modelEdge{from, first[modelType(s, typ)] + k, negative})
		}
	}
	for i, t := range s.Types {
		for j, r := range t.Rels {
			from := first[i] + j
			if len(r.Refs) > 0 {
				for _, ref := range r.Refs {
					if ref.Rel != "" {
						add(from, ref.Type, ref.Rel, false)
					}
				}
				continue
			}
			for _, leaf := range modelLeaves(r.Expr) {
				add(from, t.Name, leaf.e.Name, leaf.negative)
				if leaf.e.Kind != api.EArrow {
					continue
				}
				for _, ref := range t.Rels[modelRel(s, t.Name, leaf.e.Name)].Refs {
					if ref.Rel == "" {
						add(from, ref.Type, leaf.e.Over, leaf.negative)
					}
				}
			}
		}
	}
	return l
}

// modelLevels are the levels by the relations' numbers, -1 where there is none: the most negative dependencies on a way from the relation.
func modelLevels(s api.Schema) []int {
	_, n := modelNumbers(s)
	const no, most = -1, 1 << 20
	far := make([][]int, n)
	for a := range far {
		far[a] = slices.Repeat([]int{no}, n)
		far[a][a] = 0
	}
	for _, e := range modelEdges(s) {
		step := 0
		if e.negative {
			step = 1
		}
		far[e.from][e.on] = max(far[e.from][e.on], step)
	}
	for k := range n {
		for a := range n {
			for b := range n {
				if far[a][k] != no && far[k][b] != no {
					far[a][b] = min(max(far[a][b], far[a][k]+far[k][b]), most)
				}
			}
		}
	}
	levels := make([]int, n)
	for a := range n {
		for b := range n {
			levels[a] = max(levels[a], far[a][b])
		}
	}
	// What is on a circle with a negative dependency is farther from itself than 0.
	endless := slices.Clone(levels)
	for a := range n {
		for b := range n {
			if far[a][b] != no && far[b][b] > 0 {
				endless[a] = -1
			}
		}
	}
	return endless
}

// modelCheck is what Check and Levels have to answer.
func modelCheck(s api.Schema) (api.Fault, [][]int) {
	if l := modelForm(s); len(l) > 0 {
		return l[0], nil
	}
	if l := modelUnknown(s); len(l) > 0 {
		return l[0], nil
	}
	first, _ := modelNumbers(s)
	levels := modelLevels(s)
	var rows [][]int
	for i, t := range s.Types {
		row := levels[first[i] : first[i]+len(t.Rels)]
		if j := slices.Index(row, -1); j >= 0 {
			return api.Fault{Type: i, Rel: j, E: api.ErrCycle}, nil
		}
		rows = append(rows, row)
	}
	return api.Fault{}, rows
}

// checkSchema holds Check and Levels against the model, and looks whether s is left as it is.
func checkSchema(t *testing.T, s api.Schema) api.Fault {
	t.Helper()
	before := copyOf(s)
	fault, levels := modelCheck(s)
	if got := Check(s); got != fault {
		t.Errorf("%q: %v, not %v", show(s), got, fault)
	}
	if got, every := Levels(s); !sameLevels(got, levels) || every != (fault.E == api.OK) {
		t.Errorf("%q: %v %v, not %v", show(s), got, every, levels)
	}
	if !same(s, before) {
		t.Errorf("%q was changed into %q", show(before), show(s))
	}
	return fault
}

// show is the text of a schema if it has one.
func show(s api.Schema) any {
	if lang.May(s) {
		return lang.Print(s)
	}
	return s
}

// Random schemas.

// random makes schemas of few names, so that most of what they name is there.
type random struct {
	*rand.Rand
	types, rels []string
}

func (r random) of(names []string) string { return names[r.Intn(len(names))] }

func (r random) ref() api.Ref {
	ref := api.Ref{Type: r.of(r.types)}
	if r.Intn(3) == 0 {
		ref.Rel = r.of(r.rels)
	}
	return ref
}

func (r random) expr(deep int) api.Expr {
	if deep == 0 || r.Intn(3) == 0 {
		if r.Intn(3) == 0 {
			return arrow(r.rels[0], r.of(r.rels)) // the first one is most often direct
		}
		return rel(r.of(r.rels))
	}
	return api.Expr{Kind: api.EOr + r.Intn(3), Kids: []api.Expr{r.expr(deep - 1), r.expr(deep - 1)}}
}

// schema has types with several relations each, of which some are wrong out of so many.
func (r random) schema(most, wrong int) api.Schema {
	var s api.Schema
	for i, name := range r.types {
		t := api.Type{Name: name}
		if r.Intn(wrong) == 0 {
			t.Name = r.of(r.types)
		}
		for j := range 1 + r.Intn(most) {
			rel := defined(r.rels[j], r.expr(r.Intn(3)))
			if j == 0 && r.Intn(wrong) > 0 || r.Intn(4) == 0 {
				rel = direct(r.rels[j], r.ref(), api.Ref{Type: r.types[(i+j)%len(r.types)]})
			}
			if r.Intn(wrong) == 0 {
				rel.Name = r.of(r.rels)
			}
			t.Rels = append(t.Rels, rel)
		}
		s.Types = append(s.Types, t)
	}
	return s
}
