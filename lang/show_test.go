package lang

import (
	"math/rand"
	"slices"
	"strings"
	"testing"

	"concierge/api"
)

// Texts that are a name, and those that are none.
var (
	goodNames = []string{"a", "z", "doc", "a_", "z9", "types", "defined", longName}
	badNames  = []string{"", "A", "_a", "0a", "a-b", "a.b", "aB", "type", "relation", "define", longName + "a", "a:b", "a#b", "a b", " a", "a\n", "a\x00", "\xff", "é"}
)

// checkSchema holds what is asked of a schema against the model, parses what is printed, and looks whether s is left as it is.
func checkSchema(t *testing.T, s api.Schema) {
	t.Helper()
	before := copyOf(s)
	want, may := modelPrint(s)
	printed := Print(s)
	if printed != want || May(s) != may {
		t.Errorf("%v: %q %v, not %q %v", s, printed, May(s), want, may)
	}
	if !same(s, before) {
		t.Errorf("%v was changed into %v", before, s)
	}
	if !may || len(printed) > 4096 {
		return
	}
	again, d := Parse(printed)
	if d != (api.Diag{}) || !same(again, told(s)) || Print(again) != printed {
		t.Errorf("%q: %v %v", printed, d, again)
	}
}

// checkExpr holds what is asked of an expression against the model, on its own and in a schema.
func checkExpr(t *testing.T, e api.Expr) {
	t.Helper()
	want, may := modelExpr(e)
	if !may || modelHeight(e) > 12 {
		want = ""
	}
	if got := Expr(e); got != want {
		t.Errorf("%v: %q, not %q", e, got, want)
	}
	if Height(e) != modelHeight(e) {
		t.Errorf("%v: height %d, not %d", e, Height(e), modelHeight(e))
	}
	checkSchema(t, inSchema(e))
}

func inSchema(e api.Expr) api.Schema {
	return api.Schema{Types: []api.Type{{Name: "d", Rels: []api.Rel{defined("p", e)}}}}
}

// chainOf is an expression of height n, to the left or to the right.
func chainOf(n int, kind int, toTheLeft bool) api.Expr {
	e := rel("a")
	for range n - 1 {
		kids := []api.Expr{rel("b"), e}
		if toTheLeft {
			slices.Reverse(kids)
		}
		e = api.Expr{Kind: kind, Kids: kids}
	}
	return e
}

// P11.2

func TestHeights(t *testing.T) {
	three := []api.Expr{{}, or(rel("a"), rel("b")), {Kind: 7}}
	for _, e := range []struct {
		e    api.Expr
		want int
	}{
		{api.Expr{}, 1},
		{rel("a"), 1},
		{arrow("a", "b"), 1},
		{or(rel("a"), rel("b")), 2},
		{and(or(rel("a"), rel("b")), rel("c")), 3},
		{not(rel("c"), or(rel("a"), rel("b"))), 3},
		{not(and(rel("a"), rel("b")), or(rel("a"), and(rel("a"), rel("b")))), 4},
		{api.Expr{Kind: api.EOr}, 1},
		{api.Expr{Kind: api.EOr, Kids: []api.Expr{}}, 1},
		{api.Expr{Kind: api.EOr, Kids: []api.Expr{{}}}, 2},
		{api.Expr{Kind: api.ERel, Kids: []api.Expr{{}}}, 2},
		{api.Expr{Kind: api.EArrow, Kids: three}, 3},
		{api.Expr{Kind: -1, Kids: three}, 3},
		{api.Expr{Kind: 99, Kids: []api.Expr{{Kids: three}, {}, {}, {}}}, 4},
		{api.Expr{Kids: make([]api.Expr, 1000)}, 2},
		{api.Expr{Kids: append(make([]api.Expr, 1000), api.Expr{Kids: three})}, 4},
	} {
		if got := Height(e.e); got != e.want {
			t.Errorf("%v: %d, not %d", e.e, got, e.want)
		}
	}
	for n := 1; n < 40; n++ {
		if left, right := Height(chainOf(n, api.EAnd, true)), Height(chainOf(n, api.EArrow, false)); left != n || right != n {
			t.Errorf("%d: %d %d", n, left, right)
		}
	}
}

// P11.3

func TestExprExamples(t *testing.T) {
	for _, e := range []struct {
		e    api.Expr
		want string
	}{
		{rel("a"), "a"},
		{arrow("a", "b"), "a.b"},
		{or(rel("a"), rel("b")), "(a + b)"},
		{and(rel("a"), rel("b")), "(a & b)"},
		{not(rel("a"), rel("b")), "(a - b)"},
		{or(rel("owner"), and(rel("owner"), rel("owner"))), "(owner + (owner & owner))"},
		{not(or(arrow("a", "b"), rel("c")), and(rel("d"), arrow("e", "f"))), "((a.b + c) - (d & e.f))"},
		{api.Expr{Name: "a", Over: "b"}, "a"},                                                             // the Over of an ERel does not matter
		{api.Expr{Name: "a", Over: "B c"}, "a"},                                                           // the same
		{api.Expr{Kind: api.ENot, Name: "b", Over: "c", Kids: []api.Expr{rel("a"), rel("b")}}, "(a - b)"}, // nor do the Name and the Over of an operation
		{api.Expr{Kind: api.EOr, Name: "B c", Over: "type", Kids: []api.Expr{rel("a"), rel("b")}}, "(a + b)"},
		{rel(longName), longName},
		{arrow(longName, longName), longName + "." + longName},
	} {
		if got := Expr(e.e); got != e.want {
			t.Errorf("%v: %q, not %q", e.e, got, e.want)
		}
		checkExpr(t, e.e)
	}
}

// placesOf is expressions with one in each place where it can be.
func placesOf(e api.Expr) []api.Expr {
	return []api.Expr{e, or(e, rel("a")), or(rel("a"), e), and(e, rel("a")), and(rel("a"), e), not(e, rel("a")), not(rel("a"), e), and(rel("b"), not(or(e, rel("a")), arrow("c", "d")))}
}

func TestExprsWithoutText(t *testing.T) {
	two := []api.Expr{rel("a"), rel("b")}
	wrong := []api.Expr{
		{}, arrow("", ""), arrow("a", ""), arrow("", "a"),
		{Kind: api.EOr}, {Kind: api.EAnd}, {Kind: api.ENot},
		{Kind: api.EOr, Kids: two[:1]}, {Kind: api.EAnd, Kids: two[1:]}, {Kind: api.ENot, Kids: two[:1]},
		{Kind: api.EOr, Name: "a"}, {Kind: api.EAnd, Name: "a", Over: "b"},
		{Kind: api.EOr, Kids: slices.Concat(two, two[:1])}, {Kind: api.EAnd, Kids: slices.Concat(two, two[:1])}, {Kind: api.ENot, Kids: slices.Concat(two, two)},
		{Kind: api.ERel, Name: "a", Kids: two}, {Kind: api.ERel, Name: "a", Kids: two[:1]},
		{Kind: api.EArrow, Name: "a", Over: "b", Kids: two}, {Kind: api.EArrow, Name: "a", Over: "b", Kids: two[:1]},
	}
	for _, name := range badNames {
		wrong = append(wrong, rel(name), arrow(name, "a"), arrow("a", name), arrow(name, name))
	}
	for _, kind := range []int{-1, 5, 6, 7, 100, 256, -1 << 63, 1<<63 - 1} {
		wrong = append(wrong, api.Expr{Kind: kind}, api.Expr{Kind: kind, Name: "a"}, api.Expr{Kind: kind, Name: "a", Over: "b"}, api.Expr{Kind: kind, Kids: two})
	}
	for _, e := range wrong {
		for _, in := range placesOf(e) {
			if text := Expr(in); text != "" {
				t.Errorf("%v: %q", in, text)
			}
			if May(inSchema(in)) || Print(inSchema(in)) != "" {
				t.Errorf("%v may be printed", in)
			}
			checkExpr(t, in)
		}
	}
	for _, name := range goodNames {
		for _, e := range append(placesOf(rel(name)), placesOf(arrow(name, name))...) {
			if Expr(e) == "" || !May(inSchema(e)) {
				t.Errorf("%v may be printed", e)
			}
			checkExpr(t, e)
		}
	}
	// No Kids are no Kids, nil or empty.
	if text := Expr(api.Expr{Name: "a", Kids: []api.Expr{}}); text != "a" {
		t.Errorf("%q", text)
	}
}

// An expression of the greatest height has a text which Parse reads, and a higher one has none.
func TestHeightsOfWhatHasAText(t *testing.T) {
	for n := 1; n < 30; n++ {
		for _, kind := range []int{api.EOr, api.EAnd, api.ENot} {
			for _, toTheLeft := range []bool{true, false} {
				e := chainOf(n, kind, toTheLeft)
				if (Expr(e) != "") != (n <= 12) || May(inSchema(e)) != (n <= 12) {
					t.Errorf("height %d: %q", n, Expr(e))
				}
				checkExpr(t, e)
				checkExpr(t, and(rel("a"), e))
				checkExpr(t, and(e, e))
			}
		}
	}
	// All 2048 leaves of an expression of height 12.
	e := rel("a")
	for range 11 {
		e = not(e, e)
	}
	checkExpr(t, e)
	if text := Expr(e); strings.Count(text, "a") != 2048 || len(text) != 2048+5*2047 {
		t.Errorf("%d bytes", len(text))
	}
	if text := Expr(or(e, rel("a"))); text != "" {
		t.Errorf("%d bytes", len(text))
	}
}

func TestPrintExamples(t *testing.T) {
	s := api.Schema{Types: []api.Type{
		{Name: "user"},
		{Name: "doc", Rels: []api.Rel{
			direct("owner", api.Ref{Type: "user"}),
			direct("viewer", api.Ref{Type: "user"}, api.Ref{Type: "group", Rel: "member"}, api.Ref{Type: "doc", Rel: "owner"}),
			defined("can", or(rel("owner"), and(arrow("parent", "can"), rel("viewer")))),
		}},
		{Name: "group", Rels: []api.Rel{defined("member", rel("owner"))}},
	}}
	want := "type user\n" +
		"type doc\n" +
		"  relation owner: user\n" +
		"  relation viewer: user | group#member | doc#owner\n" +
		"  define can: (owner + (parent.can & viewer))\n" +
		"type group\n" +
		"  define member: owner\n"
	if got := Print(s); got != want || !May(s) {
		t.Errorf("%q", got)
	}
	checkSchema(t, s)
	for _, none := range []api.Schema{{}, {Types: []api.Type{}}} {
		if Print(none) != "" || !May(none) {
			t.Error("a schema without types may be printed, as nothing")
		}
		checkSchema(t, none)
	}
	// A schema need not make sense, nor fit into the limits of one.
	checkSchema(t, api.Schema{Types: slices.Repeat([]api.Type{{Name: "a", Rels: slices.Repeat([]api.Rel{direct("b", api.Ref{Type: "c", Rel: "d"})}, 50)}}, 50)})
	if s := (api.Schema{Types: slices.Repeat([]api.Type{{Name: "a"}}, 2000)}); Print(s) != strings.Repeat("type a\n", 2000) || !May(s) {
		t.Error("2000 types")
	}
}

// What a relation with Refs has as its Expr does not matter.
func TestExprsBesideRefs(t *testing.T) {
	for _, e := range []api.Expr{{}, rel("a"), rel("A"), {Kind: 9}, {Kind: api.EOr}, chainOf(40, api.EAnd, true)} {
		s := api.Schema{Types: []api.Type{{Name: "a", Rels: []api.Rel{{Name: "b", Refs: []api.Ref{{Type: "c"}}, Expr: e}}}}}
		if got := Print(s); got != "type a\n  relation b: c\n" || !May(s) {
			t.Errorf("%v: %q", e, got)
		}
		checkSchema(t, s)
	}
}

// P11.3, P11.4: each text of a schema takes each text in its turn.
func TestTextsOfSchemas(t *testing.T) {
	schema := func() api.Schema {
		return api.Schema{Types: []api.Type{
			{Name: "user"},
			{Name: "doc", Rels: []api.Rel{
				direct("owner", api.Ref{Type: "user"}, api.Ref{Type: "group", Rel: "member"}),
				defined("can", rel("owner")),
			}},
			{Name: "group", Rels: []api.Rel{direct("member", api.Ref{Type: "user"})}},
		}}
	}
	places := []func(s api.Schema) *string{
		func(s api.Schema) *string { return &s.Types[0].Name },
		func(s api.Schema) *string { return &s.Types[1].Name },
		func(s api.Schema) *string { return &s.Types[2].Name },
		func(s api.Schema) *string { return &s.Types[1].Rels[0].Name },
		func(s api.Schema) *string { return &s.Types[1].Rels[1].Name },
		func(s api.Schema) *string { return &s.Types[2].Rels[0].Name },
		func(s api.Schema) *string { return &s.Types[1].Rels[0].Refs[0].Type },
		func(s api.Schema) *string { return &s.Types[1].Rels[0].Refs[1].Type },
		func(s api.Schema) *string { return &s.Types[2].Rels[0].Refs[0].Type },
		func(s api.Schema) *string { return &s.Types[1].Rels[1].Expr.Name },
		func(s api.Schema) *string { return &s.Types[1].Rels[0].Refs[0].Rel },
		func(s api.Schema) *string { return &s.Types[1].Rels[0].Refs[1].Rel },
		func(s api.Schema) *string { return &s.Types[2].Rels[0].Refs[0].Rel },
	}
	for i, place := range places {
		isRel := i >= len(places)-3
		for _, name := range slices.Concat(goodNames, badNames) {
			s := schema()
			*place(s) = name
			may := slices.Contains(goodNames, name) || name == "" && isRel
			if May(s) != may || (Print(s) != "") != may {
				t.Errorf("place %d, %q: %v %q", i, name, May(s), Print(s))
			}
			checkSchema(t, s)
		}
	}
}

// randomExpr is an expression that is a valid one, most of the time.
func randomExpr(r *rand.Rand, deep, wrong int) api.Expr {
	oneOf := func(l []string) string { return l[r.Intn(len(l))] }
	e := api.Expr{Kind: r.Intn(5), Name: oneOf(goodNames), Over: oneOf(goodNames)}
	if deep == 0 {
		e.Kind = r.Intn(2)
	}
	kids := 0
	if e.Kind >= api.EOr {
		kids = 2
	}
	if r.Intn(wrong) == 0 {
		switch r.Intn(4) {
		case 0:
			e.Name = oneOf(badNames)
		case 1:
			e.Over = oneOf(badNames)
		case 2:
			e.Kind = r.Intn(9) - 2
		case 3:
			kids = r.Intn(4)
		}
	}
	for range kids {
		e.Kids = append(e.Kids, randomExpr(r, max(deep-1, 0), wrong))
	}
	return e
}

func randomSchema(r *rand.Rand, wrong int) api.Schema {
	name := func() string {
		if r.Intn(wrong) == 0 {
			return badNames[r.Intn(len(badNames))]
		}
		return goodNames[r.Intn(len(goodNames))]
	}
	var s api.Schema
	for range r.Intn(4) {
		typ := api.Type{Name: name()}
		for range r.Intn(4) {
			rel := api.Rel{Name: name(), Expr: randomExpr(r, r.Intn(5), wrong)}
			for range r.Intn(3) {
				rel.Refs = append(rel.Refs, api.Ref{Type: name(), Rel: []string{"", name()}[r.Intn(2)]})
			}
			typ.Rels = append(typ.Rels, rel)
		}
		s.Types = append(s.Types, typ)
	}
	return s
}

// P11.3, P11.4, P11.5: schemas that are valid, and that are not.
func TestRandomSchemas(t *testing.T) {
	r := rand.New(rand.NewSource(13))
	count := map[bool]int{}
	for i := range 20000 {
		s := randomSchema(r, []int{1 << 30, 30}[i%2])
		checkSchema(t, s)
		checkExpr(t, randomExpr(r, r.Intn(6), []int{1 << 30, 10}[i%2]))
		if _, may := modelPrint(s); i%2 == 1 {
			count[may]++
		} else if !may {
			t.Errorf("%v", s)
		}
	}
	if count[true] < 1000 || count[false] < 1000 {
		t.Error(count)
	}
}

// P1: expressions that are far too high, or have far too many kids, are answered too.
func TestHugeExpressions(t *testing.T) {
	const n = 1 << 16
	for _, kind := range []int{api.ERel, api.EArrow, api.EOr, api.ENot, -7} {
		high := api.Expr{Kind: kind, Name: "a", Over: "b", Kids: []api.Expr{chainOf(n-1, kind, true), rel("a")}}
		if Expr(high) != "" || May(inSchema(high)) || Print(inSchema(high)) != "" || Height(high) != n {
			t.Errorf("kind %d: high", kind)
		}
		wide := api.Expr{Kind: kind, Name: "a", Over: "b", Kids: slices.Repeat([]api.Expr{rel("a")}, 1<<20)}
		if Expr(wide) != "" || May(inSchema(wide)) || Print(inSchema(wide)) != "" || Height(wide) != 2 {
			t.Errorf("kind %d: wide", kind)
		}
	}
	long := strings.Repeat("a", 1<<22)
	s := api.Schema{Types: []api.Type{{Name: long, Rels: []api.Rel{direct(long, api.Ref{Type: long, Rel: long}), defined(long, arrow(long, long))}}}}
	if Print(s) != "" || May(s) || Expr(rel(long)) != "" || Expr(arrow("a", long)) != "" {
		t.Error("long names")
	}
}

// An expression whose kids are each one twice, or are itself, is too high after 12 steps, and no more of them are taken.
func TestExpressionsOfSharedKids(t *testing.T) {
	e := rel("a")
	for range 200 {
		e = or(e, e)
	}
	around := make([]api.Expr, 2)
	around[0] = api.Expr{Kind: api.EAnd, Kids: around}
	around[1] = around[0]
	for _, e := range []api.Expr{e, around[0], not(rel("a"), around[0])} {
		if Expr(e) != "" || May(inSchema(e)) || Print(inSchema(e)) != "" {
			t.Error("too high")
		}
	}
}

// R3: a text has none of the memory of what it tells.
func TestTextsAreNewMemory(t *testing.T) {
	name, over := string([]byte("name")), string([]byte("over"))
	for _, e := range []api.Expr{rel(name), arrow(name, over), or(rel(name), rel(over))} {
		if text := Expr(e); text == "" || within(text, name) || within(text, over) {
			t.Errorf("%q shares memory", text)
		}
	}
	s := api.Schema{Types: []api.Type{{Name: name}}}
	if text := Print(s); text == "" || within(text, name) {
		t.Errorf("%q shares memory", text)
	}
}

// Fuzz: any texts and kinds in a schema.
func FuzzPrint(f *testing.F) {
	f.Add("doc", "owner", "user", "member", 0, 2)
	f.Add("type", "", "A", "a.b", -1, 4)
	f.Add(longName, longName+"a", "\xff", "é", 1, 3)
	f.Fuzz(func(t *testing.T, a, b, c, d string, kind, kids int) {
		if kids < 0 || kids > 30 {
			return
		}
		e := api.Expr{Kind: kind, Name: a, Over: b}
		for i := range kids {
			e = api.Expr{Kind: (kind + i) % 7, Name: b, Over: c, Kids: []api.Expr{rel(d), e}[i%3%2:]}
		}
		checkExpr(t, e)
		checkSchema(t, api.Schema{Types: []api.Type{{Name: a}, {Name: b, Rels: []api.Rel{direct(c, api.Ref{Type: d, Rel: a}, api.Ref{Type: a}), defined(d, e)}}}})
	})
}
