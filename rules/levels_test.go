package rules

import (
	"math/rand"
	"slices"
	"testing"

	"concierge/api"
)

// P12.3 and P12.4

func TestLevelsOfTexts(t *testing.T) {
	const a = "type u relation a: u "
	for _, e := range []struct {
		text string
		want [][]int
	}{
		{"type u", [][]int{{}}},
		{"type u type v", [][]int{{}, {}}},
		{a, [][]int{{0}}},
		{"type v " + a + "type w", [][]int{{}, {0}, {}}},
		{a + "define b: a - c define c: a", [][]int{{0, 1, 0}}},
		{a + "define b: a - a", [][]int{{0, 1}}},
		{a + "define b: c define c: b", [][]int{{0, 0, 0}}}, // positive circles
		{a + "define b: b + a", [][]int{{0, 0}}},
		{a + "define b: c - a define c: b", [][]int{{0, 1, 1}}}, // all of a circle stand as high as one of it
		{a + "define b: c - a define c: d define d: b", [][]int{{0, 1, 1, 1}}},
		{a + "define b: a - c define c: a - d define d: a - a", [][]int{{0, 3, 2, 1}}},
		{a + "define b: a - a define c: b - b define d: c - c", [][]int{{0, 1, 2, 3}}},
		{a + "define b: a - a define c: b define d: c + a define e: a & d", [][]int{{0, 1, 1, 1, 1}}},
		{a + "define b: a - (a - (a - a))", [][]int{{0, 1}}}, // one is enough, at any depth
		{a + "define b: (a - a) - a", [][]int{{0, 1}}},
		{a + "define b: a - a define c: (b - a) + b", [][]int{{0, 1, 1}}}, // the first Kid is positive
		{a + "define b: a - a define c: (a - b) - a", [][]int{{0, 1, 2}}},
		{a + "define b: a - a define c: a - (a - b)", [][]int{{0, 1, 2}}}, // twice negative is negative
		{a + "define b: a - a define c: a - (a + b)", [][]int{{0, 1, 2}}},
		{a + "define b: a - a define c: a - (b & a)", [][]int{{0, 1, 2}}},
		{a + "define b: a - a define c: b + (a - b)", [][]int{{0, 1, 2}}}, // both ways
		{a + "define b: a - a define c: (a - b) + b", [][]int{{0, 1, 2}}},

		// What direct relations depend on.
		{"type u relation a: u#b define b: c - c relation c: u", [][]int{{1, 1, 0}}},
		{"type u relation a: u | u#b | u define b: c - c relation c: u", [][]int{{1, 1, 0}}},
		{"type u relation a: u#a", [][]int{{0}}},
		{"type u relation a: v relation b: v#x type v define x: y - y relation y: u", [][]int{{0, 1}, {1, 0}}}, // not on all of a type

		// What arrows depend on: the Over of the types of Refs without a Rel, where there is one, and the Name.
		{"type u relation a: v define b: a.x type v define x: y - y relation y: u", [][]int{{0, 1}, {1, 0}}},
		{"type u relation a: v define b: a - a.x type v define x: y - y relation y: u", [][]int{{0, 2}, {1, 0}}},
		{"type u relation a: v define b: a.x - a type v define x: y - y relation y: u", [][]int{{0, 1}, {1, 0}}},
		{"type u relation a: u | v define b: a.x type v define x: y - y relation y: u", [][]int{{0, 1}, {1, 0}}},
		{"type u relation a: w | v#x define b: a.x type v define x: y - y relation y: u type w relation x: u", [][]int{{1, 1}, {1, 0}, {0}}},
		{"type u relation a: w | v#y define b: a.x type v define x: y - y relation y: u type w relation x: u", [][]int{{0, 0}, {1, 0}, {0}}}, // not on the x of v
		{"type u relation a: w#x define b: a relation c: u | u#a define d: c.c - d2 define d2: d3 - a relation d3: w type w define x: y - y relation y: u", [][]int{{1, 1, 1, 3, 2, 0}, {1, 0}}},
		{"type u relation a: v | w define b: a.x type v define x: y - y relation y: u type w define x: y - z define z: y - y relation y: u", [][]int{{0, 2}, {1, 0}, {2, 1, 0}}},
		{"type u relation a: u define b: a.b", [][]int{{0, 0}}},
		{"type u relation a: v relation x: u define b: a.y type v relation y: u define x: y - y", [][]int{{0, 0, 0}, {0, 1}}},
		{"type u relation a: v#x define b: c - a relation c: u type v define x: y - y relation y: u", [][]int{{1, 2, 0}, {1, 0}}},
		{"type u relation a: u#c | u define b: d - a.d define c: d - d relation d: u", [][]int{{1, 2, 1, 0}}}, // on the Name, too

		// None.
		{"", nil},
		{a + "define b: a - b", nil},
		{a + "define b: a - c define c: a - b", nil},
		{a + "define b: a - c define c: b", nil},
		{a + "define b: a - (a - b)", nil},
		{a + "define b: c define c: d define d: a - b", nil},
		{a + "define b: a - a.b", nil},
		{"type u relation a: u#b define b: c - a relation c: u", nil},
		{"type u relation a: v define b: a - a.x type v relation y: u#b define x: y", nil},
		{a + "define b: x", nil},
		{a + "define a: a", nil},
		{a + "type u", nil},
	} {
		s := parsed(t, e.text)
		levels, every := Levels(s)
		if !sameLevels(levels, e.want) || every != (e.want != nil) || every != (Check(s) == api.Fault{}) {
			t.Errorf("%q: %v %v, not %v", e.text, levels, every, e.want)
		}
		if !every && levels != nil {
			t.Errorf("%q: %v beside false", e.text, levels)
		}
		checkSchema(t, s)
	}
}

// allows reports whether numbers are levels, as far as the dependencies of some relations ask.
func allows(edges []modelEdge, of []bool, levels []int) bool {
	return !slices.ContainsFunc(edges, func(e modelEdge) bool {
		return of[e.from] && (levels[e.from] < levels[e.on] || e.negative && levels[e.from] == levels[e.on])
	})
}

// leastLevels tries all numbers, by the words of the chapter: the level of a relation is the least one of all levels of it and what it depends on, -1 if there are none.
func leastLevels(edges []modelEdge, n int) []int {
	least := slices.Repeat([]int{-1}, n)
	for a := range n {
		of := make([]bool, n)
		of[a] = true
		for range n {
			for _, e := range edges {
				of[e.on] = of[e.on] || of[e.from]
			}
		}
		levels := make([]int, n)
		for {
			if allows(edges, of, levels) && (least[a] < 0 || levels[a] < least[a]) {
				least[a] = levels[a]
			}
			i := 0
			for ; i < n && levels[i] == n-1; i++ {
				levels[i] = 0
			}
			if i == n {
				break
			}
			levels[i]++
		}
	}
	return least
}

// All schemas of one direct relation and three defined ones by an ERel, or two under an ENot: the levels are the least ones, and the fault is that of the first relation without one.
func TestLevelsAreTheLeast(t *testing.T) {
	names := []string{"a", "b", "c", "d"}
	var exprs []api.Expr
	for _, x := range names {
		exprs = append(exprs, rel(x))
		for _, y := range names {
			exprs = append(exprs, not(rel(x), rel(y)))
		}
	}
	for _, b := range exprs {
		for _, c := range exprs {
			for _, d := range exprs {
				s := schema(typ("u", direct("a", api.Ref{Type: "u"}), defined("b", b), defined("c", c), defined("d", d)))
				least := leastLevels(modelEdges(s), 4)
				fault, want := api.Fault{}, [][]int{least}
				if j := slices.Index(least, -1); j >= 0 {
					fault, want = api.Fault{Rel: j, E: api.ErrCycle}, nil
				}
				levels, every := Levels(s)
				if f := Check(s); f != fault || !sameLevels(levels, want) || every != (want != nil) {
					t.Fatalf("%q: %v %v, not %v %v", show(s), f, levels, fault, want)
				}
			}
		}
	}
}

// towers is 16 types with 16 relations each: one to the type ahead, and 15 that depend on one another and on the last one of the type ahead; the first type's is the last one.
func towers(step, first func(a, b api.Expr) api.Expr, ahead string) api.Schema {
	var s api.Schema
	for i := range 16 {
		t := typ(numbered("t", i), direct("r0", api.Ref{Type: numbered("t", max(i, 1)-1)}))
		if i == 0 {
			t.Rels[0].Refs[0].Type = ahead
		}
		for j := 1; j < 16; j++ {
			e := step(rel("r0"), rel(numbered("r", j-1)))
			if j == 1 && (i > 0 || ahead != "t0") {
				e = first(rel("r0"), arrow("r0", "r15"))
			}
			t.Rels = append(t.Rels, defined(numbered("r", j), e))
		}
		s.Types = append(s.Types, t)
	}
	return s
}

// The highest levels, and the longest circles.
func TestHighLevels(t *testing.T) {
	s := towers(not, not, "t0")
	levels, every := Levels(s)
	for i := range 16 {
		for j := range 16 {
			want := 0
			if j > 0 {
				want = 15*i + j
			}
			if !every || levels[i][j] != want {
				t.Fatalf("%d %d: %v", i, j, levels)
			}
		}
	}
	checkSchema(t, s)
	for _, s := range []api.Schema{towers(not, not, "t15"), towers(or, not, "t15"), towers(not, or, "t15")} {
		if f := checkSchema(t, s); f != (api.Fault{Type: 0, Rel: 1, E: api.ErrCycle}) {
			t.Error(f)
		}
	}
	for _, s := range []api.Schema{towers(or, or, "t15"), towers(and, or, "t0"), towers(or, not, "t0")} {
		if f := checkSchema(t, s); f != (api.Fault{}) {
			t.Error(f)
		}
	}
	// A circle with one negative dependency, through all types.
	s = towers(or, or, "t15")
	s.Types[7].Rels[9].Expr.Kind = api.ENot
	if f := checkSchema(t, s); f != (api.Fault{Type: 0, Rel: 1, E: api.ErrCycle}) {
		t.Error(f)
	}
}

// treeOf is an expression of all that e answers for the numbers from from on, below to.
func treeOf(from, to, kind int, e func(i int) api.Expr) api.Expr {
	if to-from == 1 {
		return e(from)
	}
	half := (from + to) / 2
	return api.Expr{Kind: kind, Kids: []api.Expr{treeOf(from, half, kind, e), treeOf(half, to, kind, e)}}
}

// Relations each of which depends on all others.
func TestDenseSchemas(t *testing.T) {
	for _, kind := range []int{api.EOr, api.EAnd, api.ENot} {
		var s api.Schema
		var refs []api.Ref
		for i := range 16 {
			refs = append(refs, api.Ref{Type: numbered("t", i)})
		}
		for i := range 16 {
			x := typ(numbered("t", i), direct("r0", refs...))
			for j := 1; j < 16; j++ {
				x.Rels = append(x.Rels, defined(numbered("r", j), treeOf(0, 256, kind, func(k int) api.Expr { return arrow("r0", numbered("r", k%16)) })))
			}
			s.Types = append(s.Types, x)
		}
		want := api.Fault{}
		if kind == api.ENot {
			want = api.Fault{Rel: 1, E: api.ErrCycle}
		}
		if f := Check(s); f != want {
			t.Errorf("%d: %v", kind, f)
		}
		levels, every := Levels(s)
		if every != (want.E == api.OK) || every && slices.ContainsFunc(levels, func(l []int) bool { return slices.Max(l) > 0 }) {
			t.Errorf("%d: %v %v", kind, levels, every)
		}
	}
}

// randomOrdered is a schema of n relations, each of which names ones ahead of it in some order, but some are wrong out of so many.
func randomOrdered(r *rand.Rand, n, wrong int) api.Schema {
	order := r.Perm(n - 1)
	name := func(ahead int) string {
		if r.Intn(wrong) == 0 {
			ahead = n - 1
		}
		if k := ahead - r.Intn(min(ahead+1, 4)); k > 0 {
			return numbered("r", 1+order[k-1])
		}
		return "r0"
	}
	x := typ("t", direct("r0", api.Ref{Type: "t"}, api.Ref{Type: "t", Rel: name(0)}))
	for j := range n - 1 {
		ahead := slices.Index(order, j)
		x.Rels = append(x.Rels, defined(numbered("r", 1+j), treeOf(0, 1+r.Intn(6), api.EOr+r.Intn(3), func(int) api.Expr {
			if r.Intn(5) == 0 {
				return arrow("r0", name(ahead))
			}
			return rel(name(ahead))
		})))
	}
	return schema(x)
}

// Random schemas of many relations, some of which have a level.
func TestRandomLevels(t *testing.T) {
	r := rand.New(rand.NewSource(21))
	var ok, high int
	for range 400 {
		s := randomOrdered(r, 2+r.Intn(15), 1+r.Intn(100))
		if f := checkSchema(t, s); f.E == api.OK {
			ok++
			levels, _ := Levels(s)
			high = max(high, slices.Max(levels[0]))
		}
	}
	if ok < 40 || ok > 360 || high < 4 {
		t.Errorf("%d of 400 have levels, up to %d", ok, high)
	}
}

// R3: each answer is new memory, and its lists share none.
func TestLevelsAreNewMemory(t *testing.T) {
	s := towers(or, not, "t0")
	levels, _ := Levels(s)
	again, _ := Levels(s)
	for i := range levels {
		_ = append(levels[i], 77)
		for j := range levels[i] {
			levels[i][j] = -9
		}
		if i+1 < len(levels) && slices.Contains(levels[i+1], 77) {
			t.Error("two lists share memory")
		}
	}
	if slices.ContainsFunc(again, func(l []int) bool { return slices.Contains(l, -9) }) {
		t.Error("two answers share memory")
	}
	if third, _ := Levels(s); !sameLevels(third, again) {
		t.Error("another answer")
	}
}

// R5: a call answers the same, in whatever order its maps are gone through.
func TestSameAnswers(t *testing.T) {
	r := random{rand.New(rand.NewSource(8)), []string{"a", "b", "c", "d"}, []string{"r", "s", "t", "u"}}
	for range 300 {
		s := r.schema(4, 500)
		f := Check(s)
		levels, every := Levels(s)
		for range 10 {
			again, still := Levels(s)
			if Check(s) != f || !sameLevels(again, levels) || every != still {
				t.Fatalf("%q: %v %v", show(s), levels, again)
			}
		}
	}
}
