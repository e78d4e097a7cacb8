package graph

import (
	"math/rand"
	"slices"
	"strconv"
	"testing"

	"concierge/api"
	"concierge/rules"
)

// random makes schemas of two types, users aside, and tuples, mostly valid ones.
type random struct {
	*rand.Rand
	positive bool // without an ENot
}

func (r random) of(l ...string) string { return l[r.Intn(len(l))] }

func (r random) typ() string { return r.of("doc", "doc", "group") }

// The first three relations are direct.
func (r random) direct() string { return r.of("r", "s", "t") }
func (r random) rel() string    { return r.of("r", "s", "t", "x", "y", "z", "w") }

func (r random) expr(deep int) api.Expr {
	if deep == 0 || r.Intn(4) == 0 {
		if r.Intn(2) == 0 {
			return api.Expr{Kind: api.EArrow, Name: r.direct(), Over: r.rel()}
		}
		return api.Expr{Kind: api.ERel, Name: r.rel()}
	}
	kind := []int{api.EOr, api.EAnd, api.ENot}[r.Intn(3)]
	if r.positive {
		kind = api.EOr + r.Intn(2)
	}
	return api.Expr{Kind: kind, Kids: []api.Expr{r.expr(deep - 1), r.expr(deep - 1)}}
}

func (r random) refs() []api.Ref {
	l := []api.Ref{{Type: "user"}}
	for range r.Intn(4) {
		ref := api.Ref{Type: r.typ()}
		if r.Intn(2) == 0 {
			ref.Rel = r.rel()
		}
		l = append(l, ref)
	}
	if len(l) > 1 && r.Intn(4) == 0 {
		return l[1:]
	}
	return l
}

// schema is a valid one.
func (r random) schema() api.Schema {
	for {
		s := api.Schema{Types: []api.Type{{Name: "user"}}}
		for _, name := range []string{"doc", "group"} {
			t := api.Type{Name: name}
			for _, rel := range []string{"r", "s", "t"} {
				t.Rels = append(t.Rels, api.Rel{Name: rel, Refs: r.refs()})
			}
			for _, rel := range []string{"x", "y", "z", "w"} {
				t.Rels = append(t.Rels, api.Rel{Name: rel, Expr: r.expr(r.Intn(3))})
			}
			r.Shuffle(len(t.Rels), func(i, j int) { t.Rels[i], t.Rels[j] = t.Rels[j], t.Rels[i] })
			s.Types = append(s.Types, t)
		}
		if rules.Check(s).E == api.OK {
			return s
		}
	}
}

func (r random) tuple(s api.Schema) api.Tuple {
	o := api.Object{Type: r.typ(), ID: strconv.Itoa(r.Intn(3))}
	t := api.Tuple{O: o, Rel: r.direct()}
	found, _ := rules.Find(s, t.O.Type, t.Rel)
	ref := found.Refs[r.Intn(len(found.Refs))]
	t.S = api.Subject{O: api.Object{Type: ref.Type, ID: strconv.Itoa(r.Intn(3))}, Rel: ref.Rel}
	if r.Intn(10) == 0 {
		t.S.Rel = r.of("", "r", "x", "no")
	}
	return t
}

func (r random) tuples(s api.Schema, most int) []api.Tuple {
	var l []api.Tuple
	for range most/2 + r.Intn(most/2+1) {
		l = append(l, r.tuple(s))
	}
	return l
}

// P14.1, P14.2: all answers about random schemas and tuples.
func TestRandomWorlds(t *testing.T) {
	facts, above := 0, 0
	for seed := range int64(100) {
		r := random{Rand: rand.New(rand.NewSource(seed))}
		s := r.schema()
		levels, _ := rules.Levels(s)
		above += max(slices.Max(levels[1]), slices.Max(levels[2]))
		for range 3 {
			facts += checkAll(t, s, r.tuples(s, 24))
		}
	}
	if facts < 5000 || above < 50 {
		t.Errorf("only %d facts, and %d levels", facts, above)
	}
}

// P14.3: without an ENot, more tuples take nobody away.
func TestMoreTuplesTakeNobodyAway(t *testing.T) {
	for seed := range int64(60) {
		r := random{Rand: rand.New(rand.NewSource(seed)), positive: true}
		s := r.schema()
		few := r.tuples(s, 10)
		many := append(slices.Clone(few), r.tuples(s, 10)...)
		for _, q := range modelOf(s, many).questions() {
			all := Members(s, many, q.o, q.rel)
			for _, who := range Members(s, few, q.o, q.rel) {
				if !slices.Contains(all, who) || !Holds(s, many, q.o, q.rel, who) {
					t.Errorf("%v: %v is gone", q, who)
				}
			}
		}
	}
}

// P14.3: the order of the tuples, and how often each is there, do not matter.
func TestOrderAndRepetition(t *testing.T) {
	for seed := range int64(60) {
		r := random{Rand: rand.New(rand.NewSource(seed))}
		s := r.schema()
		l := r.tuples(s, 24)
		other := slices.Clone(l)
		for range r.Intn(10) * min(1, len(l)) {
			other = append(other, l[r.Intn(len(l))])
		}
		r.Shuffle(len(other), func(i, j int) { other[i], other[j] = other[j], other[i] })
		for _, q := range modelOf(s, l).questions() {
			a, b := Members(s, l, q.o, q.rel), Members(s, other, q.o, q.rel)
			if !slices.Equal(a, b) {
				t.Errorf("%v: %v and %v", q, a, b)
			}
		}
	}
}

// P14.3: only plain subjects of tuples that count stand in a relation.
func TestWhoStandsInRelations(t *testing.T) {
	for seed := range int64(60) {
		r := random{Rand: rand.New(rand.NewSource(seed))}
		s := r.schema()
		l := r.tuples(s, 24)
		m := modelOf(s, l)
		for _, q := range m.questions() {
			for _, who := range Members(s, l, q.o, q.rel) {
				if !slices.ContainsFunc(m.l, func(x api.Tuple) bool { return x.S == api.Subject{O: who} }) {
					t.Errorf("%v: %v", q, who)
				}
			}
		}
	}
}
