package graph

import (
	"concierge/api"
	"concierge/rules"
	"concierge/tuple"
)

// node is what one can stand in: a relation of an object or, with an over, what an arrow from it leads to.
type node struct {
	o         api.Object
	rel, over string
}

// relation is one of the schema, and its level.
type relation struct {
	api.Rel
	level int
}

// world is the relations of a schema, each by its type and name, and the subjects that stand in the direct ones by tuples that count.
type world struct {
	rels     map[api.Ref]relation
	subjects map[node][]api.Subject
	top      int // the highest level
}

// worldOf returns the world of a schema and tuples: one without any relations if the schema has a fault.
func worldOf(s api.Schema, l []api.Tuple) world {
	w := world{rels: map[api.Ref]relation{}, subjects: map[node][]api.Subject{}}
	levels, valid := rules.Levels(s)
	if !valid {
		return w
	}
	for i, t := range s.Types {
		for j, r := range t.Rels {
			w.rels[api.Ref{Type: t.Name, Rel: r.Name}] = relation{r, levels[i][j]}
			w.top = max(w.top, levels[i][j])
		}
	}
	for _, t := range l {
		if tuple.Allowed(s, t) == api.OK {
			in := node{o: t.O, rel: t.Rel}
			w.subjects[in] = append(w.subjects[in], t.S)
		}
	}
	return w
}

// relation returns the relation of a node, or of the beginning of its arrow.
func (w world) relation(n node) relation { return w.rels[api.Ref{Type: n.o.Type, Rel: n.rel}] }

// has reports whether the type of a node's object has its relation.
func (w world) has(n node) bool {
	_, has := w.rels[api.Ref{Type: n.o.Type, Rel: n.rel}]
	return has
}

// isDefined reports whether an expression says who stands in a node: not where tuples do, nor for an arrow.
func (w world) isDefined(n node) bool { return n.over == "" && len(w.relation(n).Refs) == 0 }

// bases passes on, one by one, the nodes by which somebody can come to stand in n.
func (w world) bases(n node, pass func(node)) {
	if w.isDefined(n) {
		leaves(w.relation(n).Expr, func(leaf api.Expr) { pass(atom(n.o, leaf)) })
		return
	}
	for _, p := range w.subjects[node{o: n.o, rel: n.rel}] {
		over := node{o: p.O, rel: n.over}
		switch {
		case n.over == "" && p.Rel != "":
			pass(node{o: p.O, rel: p.Rel})
		case n.over != "" && p.Rel == "" && w.has(over):
			pass(over)
		}
	}
}

// atom returns the node of a leaf of an expression about o.
func atom(o api.Object, leaf api.Expr) node {
	if leaf.Kind == api.EArrow {
		return node{o: o, rel: leaf.Name, over: leaf.Over}
	}
	return node{o: o, rel: leaf.Name}
}

// leaves passes on the ERels and EArrows of e.
func leaves(e api.Expr, pass func(leaf api.Expr)) {
	if len(e.Kids) == 0 {
		pass(e)
	}
	for _, kid := range e.Kids {
		leaves(kid, pass)
	}
}
