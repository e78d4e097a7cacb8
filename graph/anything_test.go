package graph

import (
	"math/rand"
	"slices"
	"strconv"
	"strings"
	"testing"
	"unsafe"

	"concierge/api"
)

const large = "type user type group relation member: user | group#member type folder relation owner: user | group#member relation parent: folder define see: owner + parent.see type doc relation viewer: user | group#member relation parent: folder relation no: user define see: (viewer + parent.see) - no"

func numbered(typ string, i int) api.Object { return api.Object{Type: typ, ID: strconv.Itoa(i)} }

func linked(o api.Object, rel string, p api.Object, over string) api.Tuple {
	return api.Tuple{O: o, Rel: rel, S: api.Subject{O: p, Rel: over}}
}

// P1: a long row of groups or folders, and rings of them, end like any others.
func TestLongRows(t *testing.T) {
	const n = 3000
	s := parsed(t, large)
	var row []api.Tuple
	for i := range n {
		row = append(row, linked(numbered("group", i), "member", numbered("group", i+1), "member"), linked(numbered("folder", i), "parent", numbered("folder", i+1), ""))
	}
	row = append(row, tuples(t, "group:3000#member@user:x folder:3000#owner@user:x folder:3000#owner@user:y doc:1#parent@folder:0 doc:1#no@user:y doc:1#viewer@group:0#member")...)
	for _, l := range [][]api.Tuple{
		row,
		slices.Concat(row, tuples(t, "group:3000#member@group:0#member folder:3000#parent@folder:0")),
		slices.Concat(row, tuples(t, "group:3000#member@group:3000#member folder:3000#parent@folder:3000")),
	} {
		for _, a := range []asked{{"group:0", "member", "user:x"}, {"group:1500", "member", "user:x"}, {"folder:0", "see", "user:x user:y"}, {"doc:1", "see", "user:x"}, {"doc:2", "see", ""}} {
			o := object(t, a.o)
			if got := show(Members(s, l, o, a.rel)); got != a.want {
				t.Errorf("%s %s: %q", a.o, a.rel, got)
			}
			if !Holds(s, l, o, a.rel, object(t, "user:x")) && a.want != "" || Holds(s, l, o, a.rel, object(t, "user:z")) {
				t.Errorf("%s %s: another answer", a.o, a.rel)
			}
		}
	}
}

// P1: each group within each other one, and many ways to each member.
func TestManyWays(t *testing.T) {
	const n = 60
	s := parsed(t, large)
	var l []api.Tuple
	for i := range n {
		for k := range n {
			l = append(l, linked(numbered("group", i), "member", numbered("group", k), "member"), linked(numbered("folder", i), "parent", numbered("folder", k), ""))
		}
		l = append(l, linked(numbered("group", i), "member", numbered("user", i), ""), linked(numbered("folder", i), "owner", numbered("group", i), "member"))
	}
	for _, q := range []question{{numbered("group", 7), "member"}, {numbered("folder", 7), "owner"}, {numbered("folder", 7), "see"}} {
		if got := Members(s, l, q.o, q.rel); len(got) != n || got[0].ID != "0" || got[1].ID != "1" || got[2].ID != "10" {
			t.Errorf("%v: %v", q, got)
		}
	}
}

// P1: the largest expressions, whose parts share their memory.
func TestLargestExpressions(t *testing.T) {
	for _, kind := range []int{api.EOr, api.EAnd, api.ENot} {
		e := api.Expr{Kind: api.EArrow, Name: "up", Over: "r"}
		for range api.MaxDeep - 1 {
			e = api.Expr{Kind: kind, Kids: []api.Expr{e, e}}
		}
		odd := api.Rel{Name: "r", Refs: []api.Ref{{Type: "d"}}}
		odd.Expr.Kids = make([]api.Expr, 1)
		odd.Expr.Kids[0] = odd.Expr // a direct relation's Expr does not matter
		up := api.Rel{Name: "up", Refs: []api.Ref{{Type: "d"}}, Expr: api.Expr{Kind: 77}}
		s := api.Schema{Types: []api.Type{{Name: "d", Rels: []api.Rel{odd, up, {Name: "e", Expr: e}}}}}
		var l []api.Tuple
		for i := range 30 {
			l = append(l, linked(numbered("d", 0), "up", numbered("d", i), ""), linked(numbered("d", i), "r", numbered("d", i), ""))
		}
		want := 30
		if kind == api.ENot {
			want = 0
		}
		if got := Members(s, l, numbered("d", 0), "e"); len(got) != want {
			t.Errorf("%d: %v", kind, got)
		}
	}
}

// P1: anything ends.
func TestAnything(t *testing.T) {
	r := rand.New(rand.NewSource(1))
	around := make([]api.Expr, 2)
	around[0] = api.Expr{Kind: api.EAnd, Kids: around}
	texts := []string{"", "a", "b", "r", "A", "a b", "\xff", strings.Repeat("a", 17)}
	text := func() string { return texts[r.Intn(1+r.Intn(len(texts)))] }
	some := func() api.Object { return api.Object{Type: text(), ID: text()} }
	for range 5000 {
		var s api.Schema
		for range r.Intn(4) {
			x := api.Type{Name: text()}
			for range r.Intn(3) {
				rel := api.Rel{Name: text(), Expr: api.Expr{Kind: r.Intn(7) - 1, Name: text(), Over: text()}}
				if r.Intn(2) == 0 {
					rel.Expr.Kids = around[:r.Intn(3)]
				}
				for range r.Intn(3) {
					rel.Refs = append(rel.Refs, api.Ref{Type: text(), Rel: text()})
				}
				x.Rels = append(x.Rels, rel)
			}
			s.Types = append(s.Types, x)
		}
		var l []api.Tuple
		for range r.Intn(6) {
			l = append(l, linked(some(), text(), some(), text()))
		}
		checkAll(t, s, l)
	}
}

// R3: the tuples and the schema stay as they are, and what is answered is new memory.
func TestMembersAreNewMemory(t *testing.T) {
	s := parsed(t, large)
	text := string([]byte("doc:1#viewer@user:b doc:1#viewer@user:a doc:1#viewer@user:c"))
	l := tuples(t, text)
	for i := range l {
		l[i].S.O = api.Object{Type: text[13:17], ID: text[20*i+18 : 20*i+19]}
	}
	before := slices.Clone(l)
	o := object(t, "doc:1")
	first := Members(s, l, o, "see")
	if show(first) != "user:a user:b user:c" || !slices.Equal(l, before) {
		t.Fatal(first, l)
	}
	for _, who := range first {
		if within(who.Type, text) || within(who.ID, text) {
			t.Error("shared memory")
		}
	}
	first[0] = api.Object{}
	_ = append(first[:1], api.Object{})
	if show(Members(s, l, o, "see")) != "user:a user:b user:c" || !slices.Equal(l, before) {
		t.Error("a later answer has changed")
	}
	again := Members(s, l, o, "see")
	clear(l)
	if show(again) != "user:a user:b user:c" {
		t.Error("an answer has changed with the tuples")
	}
}

// within reports whether a text lies in the memory of another one.
func within(part, s string) bool {
	from := uintptr(unsafe.Pointer(unsafe.StringData(s)))
	at := uintptr(unsafe.Pointer(unsafe.StringData(part)))
	return part != "" && at >= from && at < from+uintptr(len(s))
}
