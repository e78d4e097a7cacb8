package graph

import (
	"slices"
	"strings"
	"testing"

	"concierge/api"
	"concierge/lang"
	"concierge/names"
	"concierge/rules"
	"concierge/tuple"
)

// The calls as the chapter lists them: another signature does not compile.
var (
	_ func(s api.Schema, l []api.Tuple, o api.Object, rel string, who api.Object) bool = Holds
	_ func(s api.Schema, l []api.Tuple, o api.Object, rel string) []api.Object         = Members
)

// parsed is the schema of a text.
func parsed(t testing.TB, text string) api.Schema {
	t.Helper()
	s, d := lang.Parse(text)
	if d != (api.Diag{}) {
		t.Fatalf("%q: %v", text, d)
	}
	return s
}

// tuples is those of texts, with spaces between them.
func tuples(t testing.TB, texts string) []api.Tuple {
	t.Helper()
	var l []api.Tuple
	for _, text := range strings.Fields(texts) {
		x, is := names.Tuple(text)
		if !is {
			t.Fatalf("%q is no tuple", text)
		}
		l = append(l, x)
	}
	return l
}

// object is that of a text.
func object(t testing.TB, text string) api.Object {
	t.Helper()
	o, is := names.Object(text)
	if !is {
		t.Fatalf("%q is no object", text)
	}
	return o
}

// show is objects as text, with spaces between them.
func show(l []api.Object) string {
	var texts []string
	for _, o := range l {
		texts = append(texts, names.ShowObject(o))
	}
	return strings.Join(texts, " ")
}

// The model asks, level by level, for each object, each relation and each who, whether the chapter's rules say so by what it knows so far, until nothing is added any more.

type modelFact struct {
	o   api.Object
	rel string
	who api.Object
}

type model struct {
	s       api.Schema
	l       []api.Tuple // those that count
	objects []api.Object
	true    map[modelFact]bool
}

// modelOf is all facts by a schema and tuples about the objects that these name, and about more.
func modelOf(s api.Schema, l []api.Tuple, more ...api.Object) model {
	m := model{s: s, true: map[modelFact]bool{}}
	objects := slices.Clone(more)
	for _, x := range l {
		if tuple.Allowed(s, x) == api.OK {
			m.l = append(m.l, x)
		}
		objects = append(objects, x.O, x.S.O)
	}
	for _, o := range objects {
		if !slices.Contains(m.objects, o) {
			m.objects = append(m.objects, o)
		}
	}
	levels, _ := rules.Levels(s)
	if rules.Check(s).E != api.OK {
		return m
	}
	for level := range 300 {
		for m.round(levels, level) {
		}
	}
	return m
}

// round adds what the rules say about the relations of a level, and tells whether that is any more.
func (m model) round(levels [][]int, level int) bool {
	more := false
	for i, t := range m.s.Types {
		for j, r := range t.Rels {
			if levels[i][j] != level {
				continue
			}
			for _, o := range m.objects {
				for _, who := range m.objects {
					f := modelFact{o, r.Name, who}
					if o.Type == t.Name && !m.true[f] && m.says(r, f) {
						m.true[f] = true
						more = true
					}
				}
			}
		}
	}
	return more
}

func (m model) says(r api.Rel, f modelFact) bool {
	if len(r.Refs) == 0 {
		return m.satisfies(r.Expr, f.o, f.who)
	}
	return slices.ContainsFunc(m.l, func(x api.Tuple) bool {
		if x.O != f.o || x.Rel != f.rel {
			return false
		}
		if x.S.Rel == "" {
			return x.S.O == f.who
		}
		return m.true[modelFact{x.S.O, x.S.Rel, f.who}]
	})
}

func (m model) satisfies(e api.Expr, o, who api.Object) bool {
	var first, second bool
	if len(e.Kids) == 2 {
		first, second = m.satisfies(e.Kids[0], o, who), m.satisfies(e.Kids[1], o, who)
	}
	switch e.Kind {
	case api.ERel:
		return m.true[modelFact{o, e.Name, who}]
	case api.EArrow:
		return slices.ContainsFunc(m.l, func(x api.Tuple) bool {
			return x.O == o && x.Rel == e.Name && x.S.Rel == "" && m.true[modelFact{x.S.O, e.Over, who}]
		})
	case api.EOr:
		return first || second
	case api.EAnd:
		return first && second
	}
	return first && !second
}

// members is those of a relation of an object, in order.
func (m model) members(o api.Object, rel string) []api.Object {
	var l []api.Object
	for _, who := range m.objects {
		if m.true[modelFact{o, rel, who}] {
			l = append(l, who)
		}
	}
	slices.SortFunc(l, func(a, b api.Object) int {
		if a.Type != b.Type {
			return strings.Compare(a.Type, b.Type)
		}
		return strings.Compare(a.ID, b.ID)
	})
	return l
}

// question is what is asked about a schema and tuples.
type question struct {
	o   api.Object
	rel string
}

// questions is all relations of the schema, and more, of all objects of the model.
func (m model) questions(more ...string) []question {
	rels := slices.Clone(more)
	for _, t := range m.s.Types {
		for _, r := range t.Rels {
			if !slices.Contains(rels, r.Name) {
				rels = append(rels, r.Name)
			}
		}
	}
	var l []question
	for _, o := range m.objects {
		for _, rel := range rels {
			l = append(l, question{o, rel})
		}
	}
	return l
}

// checkAll holds all answers about a schema and tuples against the model, and returns how many facts there are.
func checkAll(t testing.TB, s api.Schema, l []api.Tuple) int {
	t.Helper()
	nobody := api.Object{Type: "user", ID: "nobody"}
	m := modelOf(s, l, nobody, api.Object{})
	for _, q := range m.questions("", "nothing") {
		want := m.members(q.o, q.rel)
		if got := Members(s, l, q.o, q.rel); !slices.Equal(got, want) {
			t.Fatalf("%s\n%v\n%v: %v, not %v", lang.Print(s), l, q, got, want)
		}
		for i, who := range m.objects {
			is := slices.Contains(want, who)
			if !is && (i+len(want))%4 > 0 {
				continue // some of those who do not are enough
			}
			if got := Holds(s, l, q.o, q.rel, who); got != is {
				t.Fatalf("%s\n%v\n%v %v: %v", lang.Print(s), l, q, who, got)
			}
		}
	}
	return len(m.true)
}
