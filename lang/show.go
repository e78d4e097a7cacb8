package lang

import (
	"slices"
	"strings"

	"concierge/api"
	"concierge/names"
)

// The words that a type, a direct relation and a defined one begin with.
const (
	wordType    = "type"
	wordDirect  = "relation"
	wordDefined = "define"
)

// operator returns the operator of a kind of expressions, or none if these are no operations.
func operator(kind int) string {
	switch kind {
	case api.EOr:
		return "+"
	case api.EAnd:
		return "&"
	case api.ENot:
		return "-"
	}
	return ""
}

// each reports whether all of l are as they may be.
func each[T any](l []T, may func(x T) bool) bool {
	return !slices.ContainsFunc(l, func(x T) bool { return !may(x) })
}

func mayType(t api.Type) bool {
	return names.Name(t.Name) && each(t.Rels, mayRel)
}

func mayRel(r api.Rel) bool {
	if len(r.Refs) == 0 {
		return names.Name(r.Name) && mayExpr(r.Expr, api.MaxDeep)
	}
	return names.Name(r.Name) && each(r.Refs, mayRef)
}

func mayRef(r api.Ref) bool {
	return names.Name(r.Type) && (r.Rel == "" || names.Name(r.Rel))
}

// mayExpr reports whether e has a text, and a height of at most some. It looks no deeper than that, so that one which is far higher takes no longer.
func mayExpr(e api.Expr, most int) bool {
	if most == 0 {
		return false
	}
	switch e.Kind {
	case api.ERel:
		return len(e.Kids) == 0 && names.Name(e.Name)
	case api.EArrow:
		return len(e.Kids) == 0 && names.Name(e.Name) && names.Name(e.Over)
	case api.EOr, api.EAnd, api.ENot:
		return len(e.Kids) == 2 && mayExpr(e.Kids[0], most-1) && mayExpr(e.Kids[1], most-1)
	}
	return false
}

// showRel returns the text of a relation that has one.
func showRel(r api.Rel) string {
	if len(r.Refs) == 0 {
		return wordDefined + " " + r.Name + ": " + showExpr(r.Expr)
	}
	var refs []string
	for _, ref := range r.Refs {
		refs = append(refs, showRef(ref))
	}
	return wordDirect + " " + r.Name + ": " + strings.Join(refs, " | ")
}

func showRef(r api.Ref) string {
	if r.Rel == "" {
		return r.Type
	}
	return r.Type + "#" + r.Rel
}

// showExpr returns the text of an expression that has one.
func showExpr(e api.Expr) string {
	switch e.Kind {
	case api.ERel:
		return strings.Clone(e.Name) // the text may be all of an answer, which shares no memory
	case api.EArrow:
		return e.Name + "." + e.Over
	}
	return "(" + showExpr(e.Kids[0]) + " " + operator(e.Kind) + " " + showExpr(e.Kids[1]) + ")"
}
