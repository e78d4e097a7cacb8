package rules

import (
	"cmp"
	"slices"

	"concierge/api"
	"concierge/lang"
)

// none is the number that a fault has instead of a relation's.
const none = -1

// examine returns the first fault of s, or the levels of its relations if there is none.
func examine(s api.Schema) (api.Fault, [][]int) {
	if f := sizes(s); f.E != api.OK {
		return f, nil
	}
	known := indexOf(s)
	if f := cmp.Or(repetitions(s), known.unknowns(s)); f.E != api.OK {
		return f, nil
	}
	levels, endless := known.levels(s)
	f := firstRel(s, func(i, j int) api.Errno {
		return when(levels[i][j] == endless, api.ErrCycle)
	})
	if f.E != api.OK {
		return f, nil
	}
	return f, levels
}

// sizes returns the fault of a schema that has no text, or too few or too many of something.
func sizes(s api.Schema) api.Fault {
	if len(s.Types) == 0 || !lang.May(s) {
		return api.Fault{Rel: none, E: api.ErrArg}
	}
	if len(s.Types) > api.MaxTypes {
		return api.Fault{Rel: none, E: api.ErrLong}
	}
	return firstType(s, func(i int) api.Errno {
		return when(len(s.Types[i].Rels) > api.MaxRels, api.ErrLong)
	})
}

// repetitions returns the fault of the first name that stands for two things.
func repetitions(s api.Schema) api.Fault {
	types := firstType(s, func(i int) api.Errno {
		return when(slices.ContainsFunc(s.Types[:i], func(t api.Type) bool { return t.Name == s.Types[i].Name }), api.ErrTwice)
	})
	return cmp.Or(types, firstRel(s, func(i, j int) api.Errno {
		rels := s.Types[i].Rels
		return when(slices.ContainsFunc(rels[:j], func(r api.Rel) bool { return r.Name == rels[j].Name }), api.ErrTwice)
	}))
}

// unknowns returns the fault of the first relation that names what is not there, or not as it must be.
func (known index) unknowns(s api.Schema) api.Fault {
	return firstRel(s, func(i, j int) api.Errno {
		t := s.Types[i]
		return known.unknown(t.Name, t.Rels[j])
	})
}

// unknown returns what is wrong with the first of a relation's Refs, or leaves of its Expr, with which something is.
func (known index) unknown(typ string, r api.Rel) api.Errno {
	if i := slices.IndexFunc(r.Refs, func(ref api.Ref) bool { return !known.has(node(ref)) }); i >= 0 {
		return api.ErrName
	}
	first := api.OK
	if len(r.Refs) == 0 {
		leaves(r.Expr, positive, func(leaf api.Expr, _ int) {
			first = cmp.Or(first, known.unknownLeaf(typ, leaf))
		})
	}
	return first
}

// unknownLeaf returns what is wrong with an ERel or an EArrow of a type.
func (known index) unknownLeaf(typ string, leaf api.Expr) api.Errno {
	on := node{Type: typ, Rel: leaf.Name}
	switch {
	case !known.has(on):
		return api.ErrName
	case leaf.Kind != api.EArrow:
		return api.OK
	case len(known[on].Refs) == 0:
		return api.ErrType
	}
	return when(len(known.over(on, leaf.Over)) == 0, api.ErrName)
}

// firstType returns the fault of the first type for which look answers an error.
func firstType(s api.Schema, look func(i int) api.Errno) api.Fault {
	for i := range s.Types {
		if e := look(i); e != api.OK {
			return api.Fault{Type: i, Rel: none, E: e}
		}
	}
	return api.Fault{}
}

// firstRel returns the fault of the first relation, type by type, for which look answers an error.
func firstRel(s api.Schema, look func(i, j int) api.Errno) api.Fault {
	for i, t := range s.Types {
		for j := range t.Rels {
			if e := look(i, j); e != api.OK {
				return api.Fault{Type: i, Rel: j, E: e}
			}
		}
	}
	return api.Fault{}
}

// when returns e if something is wrong.
func when(wrong bool, e api.Errno) api.Errno {
	if wrong {
		return e
	}
	return api.OK
}
