package rules

import (
	"math/rand"
	"slices"
	"testing"
	"unsafe"

	"concierge/api"
)

// P12.2

// checkFind holds Find against the model, and looks whether s is left as it is.
func checkFind(t *testing.T, s api.Schema, typ, rel string) {
	t.Helper()
	before := copyOf(s)
	var want api.Rel
	i, j := modelType(s, typ), modelRel(s, typ, rel)
	if j >= 0 {
		want = s.Types[i].Rels[j]
	}
	got, is := Find(s, typ, rel)
	if !sameRel(got, want) || is != (j >= 0) {
		t.Errorf("%v %q %q: %v %v, not %v", s, typ, rel, got, is, want)
	}
	if !same(s, before) {
		t.Errorf("%v was changed into %v", before, s)
	}
}

func TestFind(t *testing.T) {
	s := parsed(t, "type user type doc relation owner: user | doc#owner define can: owner - doc2 & owner.can relation doc2: user type doc2 relation own: doc")
	for _, e := range []struct {
		typ, rel string
		want     api.Rel
		is       bool
	}{
		{"doc", "owner", direct("owner", api.Ref{Type: "user"}, api.Ref{Type: "doc", Rel: "owner"}), true},
		{"doc", "can", defined("can", not(rel("owner"), and(rel("doc2"), arrow("owner", "can")))), true},
		{"doc", "doc2", direct("doc2", api.Ref{Type: "user"}), true},
		{"doc2", "own", direct("own", api.Ref{Type: "doc"}), true},
		{"doc2", "owner", api.Rel{}, false},
		{"doc", "own", api.Rel{}, false},
		{"user", "owner", api.Rel{}, false},
		{"do", "owner", api.Rel{}, false},
		{"", "owner", api.Rel{}, false},
		{"doc", "", api.Rel{}, false},
		{"", "", api.Rel{}, false},
		{"doc ", "owner", api.Rel{}, false},
		{"Doc", "owner", api.Rel{}, false},
		{"owner", "doc", api.Rel{}, false},
	} {
		got, is := Find(s, e.typ, e.rel)
		if !sameRel(got, e.want) || is != e.is {
			t.Errorf("%s %s: %v %v", e.typ, e.rel, got, is)
		}
		checkFind(t, s, e.typ, e.rel)
	}
	if r, is := Find(api.Schema{}, "a", "b"); !sameRel(r, api.Rel{}) || is {
		t.Error(r, is)
	}
}

// The first relation of the first type, in a schema that Check rejects.
func TestFindTheFirst(t *testing.T) {
	s := schema(
		typ("a", direct("x", api.Ref{Type: "1"}), defined("x", rel("2")), direct("y", api.Ref{Type: "3"})),
		typ("a", direct("y", api.Ref{Type: "4"}), direct("z", api.Ref{Type: "5"})),
		typ("", direct("", api.Ref{Type: "6"}), direct("x", api.Ref{Type: "7"})),
		typ("B c", api.Rel{Name: "\xff", Expr: api.Expr{Kind: -7, Name: "?", Kids: []api.Expr{{Over: "8"}}}}),
	)
	for _, e := range []struct {
		typ, rel string
		want     api.Rel
		is       bool
	}{
		{"a", "x", s.Types[0].Rels[0], true},
		{"a", "y", s.Types[0].Rels[2], true},
		{"a", "z", api.Rel{}, false}, // only the second type has it
		{"", "", s.Types[2].Rels[0], true},
		{"", "x", s.Types[2].Rels[1], true},
		{"", "y", api.Rel{}, false},
		{"B c", "\xff", s.Types[3].Rels[0], true},
	} {
		got, is := Find(s, e.typ, e.rel)
		if !sameRel(got, e.want) || is != e.is {
			t.Errorf("%q %q: %v %v", e.typ, e.rel, got, is)
		}
		checkFind(t, s, e.typ, e.rel)
	}
	r := random{rand.New(rand.NewSource(3)), []string{"a", "b", "c"}, []string{"r", "s", "t", "u"}}
	for range 2000 {
		checkFind(t, r.schema(4, 3), r.of(r.types), r.of(r.rels))
	}
}

// A relation of a very high expression is found as well, whatever its Refs are.
func TestFindHighExpressions(t *testing.T) {
	e := rel("a")
	for range 1 << 16 {
		e = api.Expr{Kids: []api.Expr{e}}
	}
	r := api.Rel{Name: "r", Refs: []api.Ref{{Type: "a"}, {}, {Type: "a"}}, Expr: e}
	got, is := Find(schema(typ("a", r)), "a", "r")
	if !sameRel(got, r) || !is {
		t.Error("another relation")
	}
}

// R3: what is found is changed without a change of the schema, and the other way round.
func TestFoundRelationsAreNewMemory(t *testing.T) {
	kids := []api.Expr{rel("a"), rel("b")}
	twice := api.Expr{Kind: api.EOr, Kids: []api.Expr{{Kind: api.EOr, Kids: kids}, {Kind: api.EOr, Kids: kids}}}
	s := schema(typ("a", api.Rel{Name: "r", Refs: []api.Ref{{Type: "a", Rel: "b"}}, Expr: twice}))
	before := copyOf(s)
	found, _ := Find(s, "a", "r")
	again, _ := Find(s, "a", "r")
	s.Types[0].Rels[0].Refs[0].Type = "z"
	kids[0].Name = "z"
	if !sameRel(found, before.Types[0].Rels[0]) || !sameRel(again, found) {
		t.Error("what was found has changed with the schema")
	}
	s = copyOf(before)
	found, _ = Find(s, "a", "r")
	found.Refs[0] = api.Ref{}
	found.Expr.Kids[0].Kids[0].Name = "z"
	if found.Expr.Kids[1].Kids[0].Name != "a" {
		t.Error("two lists of the relation share memory")
	}
	found.Expr.Kids[1] = api.Expr{}
	_ = append(found.Refs, api.Ref{})
	if !same(s, before) || !sameRel(again, before.Types[0].Rels[0]) {
		t.Error("the schema has changed with what was found")
	}
}

// within reports whether a text lies in the memory of another one.
func within(part, s string) bool {
	from := uintptr(unsafe.Pointer(unsafe.StringData(s)))
	at := uintptr(unsafe.Pointer(unsafe.StringData(part)))
	return part != "" && at >= from && at < from+uintptr(len(s))
}

func TestFoundTextsAreNewMemory(t *testing.T) {
	name := string([]byte("name"))
	found, is := Find(schema(typ(name, api.Rel{Name: name, Refs: []api.Ref{{Type: name, Rel: name}}, Expr: or(arrow(name, name), rel(name))})), name, name)
	texts := []string{found.Name, found.Refs[0].Type, found.Refs[0].Rel, found.Expr.Kids[0].Name, found.Expr.Kids[0].Over, found.Expr.Kids[1].Name}
	if !is || slices.ContainsFunc(texts, func(text string) bool { return text != name || within(text, name) }) {
		t.Error("shared memory")
	}
}
