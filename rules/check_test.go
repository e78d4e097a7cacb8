package rules

import (
	"math"
	"math/rand"
	"slices"
	"strconv"
	"strings"
	"testing"

	"concierge/api"
	"concierge/lang"
)

// P12.1

func TestFaultsOfTexts(t *testing.T) {
	const (
		user = "type user "
		doc  = user + "type doc relation owner: user "
		up   = user + "type doc relation up: doc relation owner: user "
	)
	for _, e := range []struct {
		text string
		want api.Fault
	}{
		{"", api.Fault{Rel: -1, E: api.ErrArg}},
		{user, api.Fault{}},
		{doc, api.Fault{}},
		{doc + "define can: owner", api.Fault{}},

		// Names that stand for two things: types first, whatever the relations.
		{user + "type user", api.Fault{Type: 1, Rel: -1, E: api.ErrTwice}},
		{"type a type b type b type a", api.Fault{Type: 2, Rel: -1, E: api.ErrTwice}},
		{"type a relation r: a define r: r type a", api.Fault{Type: 1, Rel: -1, E: api.ErrTwice}},
		{"type a relation r: x type a", api.Fault{Type: 1, Rel: -1, E: api.ErrTwice}},
		{doc + "define owner: owner", api.Fault{Type: 1, Rel: 1, E: api.ErrTwice}},
		{doc + "define can: owner relation can: user", api.Fault{Type: 1, Rel: 2, E: api.ErrTwice}},
		{"type a relation r: x type b relation s: b relation t: b relation s: b", api.Fault{Type: 1, Rel: 2, E: api.ErrTwice}},
		{"type a relation r: a type b relation r: b", api.Fault{}},               // of different types
		{"type a relation a: a relation b: a type b relation a: b", api.Fault{}}, // a relation may have a type's name
		{"type a relation r: a relation s: a relation s: a relation r: a", api.Fault{Type: 0, Rel: 2, E: api.ErrTwice}},

		// Direct relations.
		{"type doc relation owner: user", api.Fault{E: api.ErrName}},
		{user + "type doc relation a: user | x", api.Fault{Type: 1, E: api.ErrName}},
		{user + "type doc relation a: user relation b: user | user | doc | x", api.Fault{Type: 1, Rel: 1, E: api.ErrName}},
		{user + "type doc relation a: doc#a | user#a", api.Fault{Type: 1, E: api.ErrName}},
		{user + "type doc relation a: user#user", api.Fault{Type: 1, E: api.ErrName}}, // a type is no relation
		{user + "type doc relation a: x#a", api.Fault{Type: 1, E: api.ErrName}},
		{user + "type doc relation a: user | doc#b", api.Fault{Type: 1, E: api.ErrName}},
		{user + "type doc relation a: user | doc#a", api.Fault{}},
		{user + "type doc relation a: user | doc#b define b: a", api.Fault{}}, // one that comes later, a defined one
		{"type doc relation a: group#m type group relation m: doc", api.Fault{}},
		{"type doc relation a: a", api.Fault{E: api.ErrName}}, // a relation is no type

		// Defined relations: an ERel.
		{doc + "define can: x", api.Fault{Type: 1, Rel: 1, E: api.ErrName}},
		{doc + "define can: doc", api.Fault{Type: 1, Rel: 1, E: api.ErrName}},
		{doc + "define can: owner + owner & owner - x", api.Fault{Type: 1, Rel: 1, E: api.ErrName}},
		{doc + "define can: owner + x & owner", api.Fault{Type: 1, Rel: 1, E: api.ErrName}},
		{doc + "type group define can: owner", api.Fault{Type: 2, E: api.ErrName}}, // another type's
		{doc + "define can: can", api.Fault{}},
		{doc + "define can: see define see: owner", api.Fault{}},
		{"type a define b: b", api.Fault{}},

		// An EArrow.
		{up + "define can: up.owner", api.Fault{}},
		{up + "define can: up.can", api.Fault{}},
		{up + "define can: x.owner", api.Fault{Type: 1, Rel: 2, E: api.ErrName}},
		{up + "define can: doc.owner", api.Fault{Type: 1, Rel: 2, E: api.ErrName}},
		{up + "define can: can.owner", api.Fault{Type: 1, Rel: 2, E: api.ErrType}},
		{up + "define can: can.x", api.Fault{Type: 1, Rel: 2, E: api.ErrType}},
		{up + "define see: up define can: see.owner", api.Fault{Type: 1, Rel: 3, E: api.ErrType}},
		{up + "define can: see.owner define see: up", api.Fault{Type: 1, Rel: 2, E: api.ErrType}},
		{up + "define can: up.x", api.Fault{Type: 1, Rel: 2, E: api.ErrName}},
		{up + "define can: owner.owner", api.Fault{Type: 1, Rel: 2, E: api.ErrName}}, // a user has none
		{user + "type doc relation up: user | doc define can: up.can", api.Fault{}},  // one of the Refs is enough
		{user + "type doc relation up: doc | user define can: up.can", api.Fault{}},
		{user + "type doc relation up: user | doc#up define can: up.can", api.Fault{Type: 1, Rel: 1, E: api.ErrName}}, // a Ref with a Rel does not count
		{user + "type doc relation up: doc#up define can: up.up", api.Fault{Type: 1, Rel: 1, E: api.ErrName}},
		{user + "type doc relation up: doc#up | doc define can: up.up", api.Fault{}},
		{"type doc relation up: group define can: up.see type group define see: see", api.Fault{}},
		{"type doc define can: up.can relation up: x", api.Fault{E: api.ErrName}},               // its own fault, ahead of that of the Ref
		{"type doc define can: up.can relation up: doc | x", api.Fault{Rel: 1, E: api.ErrName}}, // the Ref's

		// The first one from left to right, and relation by relation.
		{up + "define can: up.owner + can.owner + x", api.Fault{Type: 1, Rel: 2, E: api.ErrType}},
		{up + "define can: x + can.owner", api.Fault{Type: 1, Rel: 2, E: api.ErrName}},
		{up + "define can: owner - can.owner & x", api.Fault{Type: 1, Rel: 2, E: api.ErrType}},
		{up + "define can: owner & (x - can.owner)", api.Fault{Type: 1, Rel: 2, E: api.ErrName}},
		{up + "define a: owner define b: a.owner define c: x", api.Fault{Type: 1, Rel: 3, E: api.ErrType}},
		{up + "define b: x define c: b.owner", api.Fault{Type: 1, Rel: 2, E: api.ErrName}},
		{"type a define x: x.x type b relation r: c", api.Fault{E: api.ErrType}},
		{"type a define x: y type b define x: x.x", api.Fault{E: api.ErrName}},
		{"type a define x: x - x type b relation r: c", api.Fault{Type: 1, E: api.ErrName}}, // ahead of what has no level

		// What has no level.
		{"type u relation a: u define b: a - c define c: a - b", api.Fault{Rel: 1, E: api.ErrCycle}},
		{"type u relation a: u define b: a - c define c: a", api.Fault{}},
		{"type a define b: b - b", api.Fault{E: api.ErrCycle}},
		{"type a relation r: a define b: r - b", api.Fault{Rel: 1, E: api.ErrCycle}},
		{"type a relation r: a define b: b - r", api.Fault{}},
		{"type a define b: c define c: c - c", api.Fault{E: api.ErrCycle}}, // one that depends on what has none
		{"type a define b: b type c relation d: c define e: d define f: e - f", api.Fault{Type: 1, Rel: 2, E: api.ErrCycle}},
	} {
		s := parsed(t, e.text)
		if got := Check(s); got != e.want {
			t.Errorf("%q: %v, not %v", e.text, got, e.want)
		}
		checkSchema(t, s)
	}
}

// numbered is a name with a number.
func numbered(name string, i int) string { return name + strconv.Itoa(i) }

// wide is a schema with so many types of so many relations each.
func wide(types, rels int) api.Schema {
	var s api.Schema
	for i := range types {
		t := typ(numbered("t", i))
		for j := range rels {
			t.Rels = append(t.Rels, direct(numbered("r", j), api.Ref{Type: "t0"}))
		}
		s.Types = append(s.Types, t)
	}
	return s
}

func TestSizes(t *testing.T) {
	long := api.Fault{Rel: -1, E: api.ErrLong}
	for _, e := range []struct {
		s    api.Schema
		want api.Fault
	}{
		{wide(15, 16), api.Fault{}},
		{wide(16, 0), api.Fault{}},
		{wide(16, 16), api.Fault{}},
		{wide(17, 0), long},
		{wide(17, 17), long},
		{wide(1000, 1), long},
		{wide(1, 16), api.Fault{}},
		{wide(1, 17), long},
		{wide(16, 17), long},
		{wide(1, 1000), long},
		{schema(slices.Repeat([]api.Type{typ("a")}, 17)...), long}, // ahead of ErrTwice
		{schema(slices.Repeat([]api.Type{typ("a")}, 16)...), api.Fault{Type: 1, Rel: -1, E: api.ErrTwice}},
		{schema(typ("a"), typ("b", slices.Repeat([]api.Rel{defined("x", rel("y"))}, 17)...)), api.Fault{Type: 1, Rel: -1, E: api.ErrLong}}, // ahead of ErrTwice and ErrName
		{schema(typ("a"), typ("b", slices.Repeat([]api.Rel{defined("x", rel("y"))}, 16)...)), api.Fault{Type: 1, Rel: 1, E: api.ErrTwice}},
		{schema(typ("a"), typ("a"), wide(1, 17).Types[0]), api.Fault{Type: 2, Rel: -1, E: api.ErrLong}},
		{schema(wide(1, 16).Types[0], typ("b", wide(1, 17).Types[0].Rels...), typ("c", wide(1, 18).Types[0].Rels...)), api.Fault{Type: 1, Rel: -1, E: api.ErrLong}},
		{schema(wide(1, 17).Types[0], typ("A")), api.Fault{Rel: -1, E: api.ErrArg}}, // ahead of ErrLong
		{schema(append(wide(20, 0).Types, typ(""))...), api.Fault{Rel: -1, E: api.ErrArg}},
	} {
		if got := Check(e.s); got != e.want {
			t.Errorf("%d types: %v, not %v", len(e.s.Types), got, e.want)
		}
		checkSchema(t, e.s)
	}
	if s, _ := lang.Parse(lang.Print(wide(16, 0))); Check(s) != (api.Fault{}) {
		t.Error("16 types")
	}
}

// chainOf is an expression of height n.
func chainOf(n int, leaf api.Expr) api.Expr {
	e := leaf
	for range n - 1 {
		e = or(e, leaf)
	}
	return e
}

// What has no text is ErrArg, wherever it stands.
func TestSchemasWithoutText(t *testing.T) {
	user := typ("user", direct("r", api.Ref{Type: "user"}))
	in := func(rels ...api.Rel) api.Schema { return schema(user, typ("doc", rels...)) }
	owner := direct("owner", api.Ref{Type: "user"})
	for i, s := range []api.Schema{
		{}, {Types: []api.Type{}}, {Types: make([]api.Type, 1)}, {Types: make([]api.Type, 20)},
		schema(typ("")), schema(typ("A")), schema(user, typ("type")), schema(user, typ(strings.Repeat("a", 17))),
		in(api.Rel{}), in(api.Rel{Name: "a"}), in(direct("a")), in(direct("relation", api.Ref{Type: "user"})),
		in(direct("a", api.Ref{})), in(direct("a", api.Ref{Type: "user"}, api.Ref{Type: "User"})),
		in(direct("a", api.Ref{Type: "user", Rel: "R"})), in(direct("a", api.Ref{Rel: "r"})),
		in(owner, defined("", rel("owner"))), in(owner, defined("a", rel("Owner"))), in(owner, defined("a", arrow("owner", ""))),
		in(owner, defined("a", api.Expr{Kind: 5, Name: "owner"})), in(owner, defined("a", api.Expr{Kind: -1, Name: "owner"})),
		in(owner, defined("a", api.Expr{Kind: api.EOr})), in(owner, defined("a", api.Expr{Kind: api.ENot, Kids: []api.Expr{rel("owner")}})),
		in(owner, defined("a", api.Expr{Kind: api.EAnd, Kids: []api.Expr{rel("owner"), rel("owner"), rel("owner")}})),
		in(owner, defined("a", api.Expr{Name: "owner", Kids: []api.Expr{rel("owner")}})),
		in(owner, defined("a", chainOf(13, rel("owner")))),
	} {
		if got := Check(s); got != (api.Fault{Type: 0, Rel: -1, E: api.ErrArg}) {
			t.Errorf("%d: %v", i, got)
		}
		if levels, every := Levels(s); len(levels) != 0 || every {
			t.Errorf("%d: %v %v", i, levels, every)
		}
	}
	for _, e := range []api.Expr{chainOf(12, rel("owner")), {Name: "owner", Over: "A b"}, {Kind: api.EOr, Name: "A", Over: "b", Kids: []api.Expr{rel("owner"), rel("owner")}}} {
		if f := checkSchema(t, in(owner, defined("a", e))); f != (api.Fault{}) {
			t.Errorf("%v: %v", e, f)
		}
	}
}

// The Expr of a direct relation does not matter, whatever it is.
func TestExprsOfDirectRelations(t *testing.T) {
	around := make([]api.Expr, 1)
	around[0] = api.Expr{Kind: api.ENot, Kids: around}
	for i, e := range []api.Expr{rel("x"), arrow("r", "x"), not(rel("r"), rel("r")), {Kind: 77}, {Kind: api.EOr}, around[0], chainOf(40, rel("r"))} {
		r := direct("r", api.Ref{Type: "user"})
		r.Expr = e
		s := schema(typ("user", r, defined("s", rel("r"))))
		levels, every := Levels(s)
		if f := Check(s); f != (api.Fault{}) || !every || !sameLevels(levels, [][]int{{0, 0}}) {
			t.Errorf("%d: %v %v %v", i, f, levels, every)
		}
	}
}

// All relations of an expression are looked at, at each place of it.
func TestPlacesInExpressions(t *testing.T) {
	of := func(e api.Expr) api.Schema {
		return schema(typ("d", direct("r", api.Ref{Type: "d"}), defined("p", e)))
	}
	wrong := []struct {
		e    api.Expr
		want api.Errno
	}{{rel("x"), api.ErrName}, {arrow("x", "r"), api.ErrName}, {arrow("p", "r"), api.ErrType}, {arrow("r", "x"), api.ErrName}}
	for _, a := range []api.Expr{rel("r"), arrow("r", "r"), arrow("r", "p")} {
		for _, w := range wrong {
			for kind := api.EOr; kind <= api.ENot; kind++ {
				op := func(x, y api.Expr) api.Expr { return api.Expr{Kind: kind, Kids: []api.Expr{x, y}} }
				for _, e := range []api.Expr{w.e, op(w.e, a), op(a, w.e), op(op(w.e, a), a), op(op(a, w.e), a), op(a, op(w.e, a)), op(a, op(a, w.e)), not(a, op(a, w.e))} {
					if f := checkSchema(t, of(e)); f != (api.Fault{Rel: 1, E: w.want}) {
						t.Errorf("%v: %v", e, f)
					}
				}
				for _, other := range wrong {
					if f := checkSchema(t, of(op(op(a, w.e), op(other.e, a)))); f != (api.Fault{Rel: 1, E: w.want}) {
						t.Errorf("%v %v: %v", w.e, other.e, f)
					}
				}
			}
		}
	}
}

// Random schemas, with and without each kind of fault.
func TestRandomSchemas(t *testing.T) {
	var seen [20]int
	for seed := range int64(12) {
		r := random{rand.New(rand.NewSource(seed)), []string{"a", "b", "c"}, []string{"r", "s", "t", "u"}}
		for range 4000 {
			most, wrong := 1+r.Intn(4), 2+r.Intn(200)
			r.types = []string{"a", "b", "c"}[:1+r.Intn(3)]
			r.rels = []string{"r", "s", "t", "u"}[:most]
			seen[checkSchema(t, r.schema(most, wrong)).E]++
		}
	}
	for _, e := range []api.Errno{api.OK, api.ErrName, api.ErrTwice, api.ErrType, api.ErrCycle} {
		if seen[e] < 300 {
			t.Errorf("error %d was met only %d times", e, seen[e])
		}
	}
}

// P1: anything ends, and with an error there is nothing else.
func TestAnything(t *testing.T) {
	r := rand.New(rand.NewSource(5))
	texts := []string{"", "a", "b", "A", "type", "a b", "\xff", strings.Repeat("a", 17)}
	text := func() string { return texts[r.Intn(len(texts))%(1+r.Intn(len(texts)))] }
	var expr func(deep int) api.Expr
	expr = func(deep int) api.Expr {
		e := api.Expr{Kind: r.Intn(7) - 1, Name: text(), Over: text()}
		if r.Intn(20) == 0 {
			e.Kind = []int{math.MinInt, math.MaxInt, 99}[r.Intn(3)]
		}
		for range r.Intn(deep + 1) {
			e.Kids = append(e.Kids, expr(deep-1))
		}
		return e
	}
	for range 20000 {
		var s api.Schema
		for range r.Intn(4) {
			x := api.Type{Name: text()}
			for range r.Intn(3) {
				rel := api.Rel{Name: text(), Expr: expr(3)}
				for range r.Intn(3) {
					rel.Refs = append(rel.Refs, api.Ref{Type: text(), Rel: text()})
				}
				x.Rels = append(x.Rels, rel)
			}
			s.Types = append(s.Types, x)
		}
		checkSchema(t, s)
		checkFind(t, s, text(), text())
	}
}

// An expression that contains itself has no text.
func TestExpressionsAroundThemselves(t *testing.T) {
	around := make([]api.Expr, 2)
	around[0] = api.Expr{Kind: api.EAnd, Kids: around}
	around[1] = around[0]
	s := schema(typ("a", direct("r", api.Ref{Type: "a"}), defined("b", around[0])))
	if f := Check(s); f != (api.Fault{Rel: -1, E: api.ErrArg}) {
		t.Error(f)
	}
	if levels, every := Levels(s); levels != nil || every {
		t.Error(levels, every)
	}
}
