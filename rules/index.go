package rules

import "concierge/api"

// node is a relation of a type, or a type itself, with an empty Rel: what a Ref names.
type node api.Ref

// index holds the relations and the types of a schema by their names; a type stands there as the zero relation.
type index map[node]api.Rel

// How far a relation stands at least above one that it depends on.
const (
	positive = 0
	negative = 1
)

// indexOf returns the index of s.
func indexOf(s api.Schema) index {
	known := index{}
	for _, t := range s.Types {
		known[node{Type: t.Name}] = api.Rel{}
		for _, r := range t.Rels {
			known[node{Type: t.Name, Rel: r.Name}] = r
		}
	}
	return known
}

func (known index) has(n node) bool {
	_, has := known[n]
	return has
}

// over returns the relations over of those types whose objects may themselves stand in the relation n, as far as there are such relations.
func (known index) over(n node, over string) []node {
	var l []node
	for _, ref := range known[n].Refs {
		if on := (node{Type: ref.Type, Rel: over}); ref.Rel == "" && known.has(on) {
			l = append(l, on)
		}
	}
	return l
}

// dependencies passes on, one by one, the relations on which the relation from depends, and how far it stands above them.
func (known index) dependencies(from node, pass func(on node, step int)) {
	r := known[from]
	for _, ref := range r.Refs {
		if ref.Rel != "" {
			pass(node(ref), positive)
		}
	}
	if len(r.Refs) > 0 {
		return // its Expr does not matter, whatever it is
	}
	leaves(r.Expr, positive, func(leaf api.Expr, step int) {
		on := node{Type: from.Type, Rel: leaf.Name}
		pass(on, step)
		if leaf.Kind == api.EArrow {
			for _, over := range known.over(on, leaf.Over) {
				pass(over, step)
			}
		}
	})
}

// leaves passes on the ERels and EArrows of e from left to right, each with a step: negative in the second Kid of an ENot, and else the one that e itself has.
func leaves(e api.Expr, step int, pass func(leaf api.Expr, step int)) {
	if len(e.Kids) == 0 {
		pass(e, step)
	}
	for i, kid := range e.Kids {
		of := step
		if e.Kind == api.ENot && i == 1 {
			of = negative
		}
		leaves(kid, of, pass)
	}
}
