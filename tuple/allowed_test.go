package tuple

import (
	"math/rand"
	"slices"
	"testing"

	"concierge/api"
	"concierge/lang"
	"concierge/names"
)

// The calls as the chapter lists them: another signature does not compile.
var (
	_ func(s api.Schema, t api.Tuple) api.Errno                 = Allowed
	_ func(tenant string, t api.Tuple) []byte                   = Key
	_ func(tenant string, t api.Tuple) []byte                   = Back
	_ func(b []byte) (string, api.Tuple, bool)                  = Read
	_ func(b []byte) (string, api.Tuple, bool)                  = ReadBack
	_ func(l, more []api.Tuple) []api.Tuple                     = Insert
	_ func(l, gone []api.Tuple) []api.Tuple                     = Remove
	_ func(l []api.Tuple, o api.Object, rel string) []api.Tuple = Of
)

const (
	longName = "abcdefghijklm_09"         // 16 bytes
	longID   = "ABCxyz-0123456789._-abCD" // 24 bytes
)

// What a name or an ID can be, and what it can't.
var (
	goodNames = []string{"a", "z9", "doc", "a_", "types", longName}
	goodIDs   = []string{"a", "Z", "0", "_", ".", "-", "type", longID}
	badNames  = []string{"A", "_a", "0a", "a-b", "a.b", "type", "relation", "define", longName + "a", "a:b", "a#b", "a@b", "a b", "a\x00", "\x00", "\x01", "\xff", "é"}
	badIDs    = []string{"", "a:b", "a#b", "a@b", "a b", "a\x00", "\x00", "\x01", "\xff", "é", longID + "a"}
)

// tupleOf is the tuple of its parts, in the order of names' Less.
func tupleOf(p [6]string) api.Tuple {
	return api.Tuple{O: object(p[0], p[1]), Rel: p[2], S: subject(p[3], p[4], p[5])}
}

func partsOf(t api.Tuple) [6]string {
	return [6]string{t.O.Type, t.O.ID, t.Rel, t.S.O.Type, t.S.O.ID, t.S.Rel}
}

// plain is a valid tuple's parts.
func plain() [6]string { return [6]string{"doc", "1", "viewer", "group", "eng", "member"} }

// named is the tuple of a text.
func named(t *testing.T, text string) api.Tuple {
	t.Helper()
	l, is := names.Tuple(text)
	if !is {
		t.Fatalf("%q is no tuple", text)
	}
	return l
}

// parsed is the schema of a text.
func parsed(t *testing.T, text string) api.Schema {
	t.Helper()
	s, d := lang.Parse(text)
	if d != (api.Diag{}) {
		t.Fatalf("%q: %v", text, d)
	}
	return s
}

// withWrongParts is tuples of which one part is not valid.
func withWrongParts() []api.Tuple {
	l := []api.Tuple{{}}
	wrong := [6][]string{append(badNames, ""), badIDs, append(badNames, ""), append(badNames, ""), badIDs, badNames}
	for i, texts := range wrong {
		for _, text := range texts {
			p := plain()
			p[i] = text
			l = append(l, tupleOf(p))
		}
	}
	return l
}

// P13.1

// modelAllowed is Allowed by the chapter's words, over all types and relations.
func modelAllowed(s api.Schema, t api.Tuple) api.Errno {
	var object, subject []api.Type
	for _, x := range s.Types {
		if x.Name == t.O.Type {
			object = append(object, x)
		}
		if x.Name == t.S.O.Type {
			subject = append(subject, x)
		}
	}
	var rels []api.Rel
	if len(object) > 0 {
		for _, r := range object[0].Rels {
			if r.Name == t.Rel {
				rels = append(rels, r)
			}
		}
	}
	isRef := func(r api.Ref) bool { return r.Type == t.S.O.Type && r.Rel == t.S.Rel }
	switch {
	case names.ShowTuple(t) == "":
		return api.ErrArg
	case len(rels) == 0 || len(subject) == 0:
		return api.ErrName
	case len(rels[0].Refs) == 0 || !slices.ContainsFunc(rels[0].Refs, isRef):
		return api.ErrType
	}
	return api.OK
}

func TestAllowedOfTexts(t *testing.T) {
	const small = "type user type doc relation owner: user"
	const large = `type user relation self: user
		type group relation member: user | group#member | group#boss define boss: member define any: boss
		type doc relation owner: user relation viewer: user | group#member | doc#owner relation up: doc relation odd: group#any
			define can: viewer + owner define see: up.can`
	for _, e := range []struct {
		schema, tuple string
		want          api.Errno
	}{
		{small, "doc:1#owner@user:a", api.OK},
		{small, "doc:1#owner@doc:2", api.ErrType},
		{small, "doc:1#can@user:a", api.ErrName},
		{small, "doc:1#owner@user:a#owner", api.ErrType},
		{small, "doc:1#owner@doc:1", api.ErrType},
		{small, "doc:1#owner@group:a", api.ErrName},
		{small, "doc:1#owner@group:a#m", api.ErrName},
		{small, "user:1#owner@user:a", api.ErrName},
		{small, "group:1#owner@user:a", api.ErrName},
		{small, "doc:1#user@user:a", api.ErrName},
		{small, "doc:1#doc@user:a", api.ErrName},
		{small, "doc:1#owne@user:a", api.ErrName},
		{small, "doc:1#owner2@user:a", api.ErrName},
		{small, "do:1#owner@user:a", api.ErrName},
		{small, "doc:1#owner@use:a", api.ErrName},
		{small, "doc:type#owner@user:A.b-C_d", api.OK},
		{"", "doc:1#owner@user:a", api.ErrName},
		{"type user", "user:1#owner@user:a", api.ErrName},

		{large, "group:g#member@user:a", api.OK},
		{large, "group:g#member@group:g#member", api.OK},
		{large, "group:g#member@group:h#boss", api.OK}, // a defined relation of the subject
		{large, "group:g#member@group:h#any", api.ErrType},
		{large, "group:g#member@group:h", api.ErrType},
		{large, "group:g#member@user:a#member", api.ErrType},
		{large, "group:g#member@user:a#self", api.ErrType},
		{large, "group:g#member@doc:a#member", api.ErrType},
		{large, "group:g#member@group:h#nobody", api.ErrType}, // that the schema has no such relation is no ErrName
		{large, "group:g#boss@user:a", api.ErrType},           // defined
		{large, "group:g#boss@group:g#boss", api.ErrType},
		{large, "group:g#boss@nobody:a", api.ErrName}, // ahead of ErrType
		{large, "doc:1#viewer@user:a", api.OK},
		{large, "doc:1#viewer@group:g#member", api.OK},
		{large, "doc:1#viewer@doc:1#owner", api.OK},
		{large, "doc:1#viewer@doc:1#viewer", api.ErrType},
		{large, "doc:1#viewer@doc:1", api.ErrType},
		{large, "doc:1#viewer@group:g", api.ErrType},
		{large, "doc:1#owner@group:g#member", api.ErrType},
		{large, "doc:1#up@doc:1", api.OK},
		{large, "doc:1#up@user:a", api.ErrType},
		{large, "doc:1#odd@group:g#any", api.OK},
		{large, "doc:1#can@user:a", api.ErrType},
		{large, "doc:1#see@doc:1", api.ErrType},
		{large, "doc:1#self@user:a", api.ErrName}, // another type's
		{large, "user:a#self@user:b", api.OK},
		{large, "user:a#viewer@user:b", api.ErrName},
	} {
		s, l := parsed(t, e.schema), named(t, e.tuple)
		if got := Allowed(s, l); got != e.want || modelAllowed(s, l) != e.want {
			t.Errorf("%q %q: %d, not %d", e.schema, e.tuple, got, e.want)
		}
	}
}

// What has no text is ErrArg, whatever the schema is, also if that speaks of it.
func TestAllowedWithoutText(t *testing.T) {
	for _, l := range withWrongParts() {
		spoken := api.Schema{Types: []api.Type{{Name: l.S.O.Type}, {Name: l.O.Type, Rels: []api.Rel{{Name: l.Rel, Refs: []api.Ref{{Type: l.S.O.Type, Rel: l.S.Rel}}}}}}}
		for _, s := range []api.Schema{{}, spoken, parsed(t, "type group relation member: group type doc relation viewer: group#member")} {
			if got := Allowed(s, l); got != api.ErrArg {
				t.Errorf("%q: %d", partsOf(l), got)
			}
		}
	}
	s := parsed(t, "type group relation member: group type doc relation viewer: group#member")
	if got := Allowed(s, tupleOf(plain())); got != api.OK {
		t.Errorf("%d", got)
	}
}

// Each valid part is allowed if the schema speaks of it.
func TestAllowedOfEachPart(t *testing.T) {
	for i := range 6 {
		texts := goodNames
		if i == 1 || i == 4 {
			texts = goodIDs
		}
		for _, text := range texts {
			p := plain()
			p[i] = text
			for _, rel := range []string{p[5], ""} {
				s := api.Schema{Types: []api.Type{{Name: p[3]}, {Name: p[0], Rels: []api.Rel{{Name: p[2], Refs: []api.Ref{{Type: p[3], Rel: rel}}}}}}}
				if p[0] == p[3] {
					s.Types = s.Types[1:]
				}
				l := tupleOf([6]string{p[0], p[1], p[2], p[3], p[4], rel})
				if got := Allowed(s, l); got != api.OK {
					t.Errorf("%q: %d", partsOf(l), got)
				}
				l.S.Rel += "x" // too long, or of no Ref
				if got := Allowed(s, l); got == api.OK || got != modelAllowed(s, l) {
					t.Errorf("%q: %d", partsOf(l), got)
				}
			}
		}
	}
}

// A schema with faults is looked at as it is: the first relation of the first type counts, and a Ref may name what is not there.
func TestAllowedBySchemasWithFaults(t *testing.T) {
	ref := func(typ, rel string) api.Ref { return api.Ref{Type: typ, Rel: rel} }
	s := api.Schema{Types: []api.Type{
		{Name: "a", Rels: []api.Rel{
			{Name: "x", Refs: []api.Ref{ref("a", "")}},
			{Name: "x", Refs: []api.Ref{ref("b", "")}},
			{Name: "y", Expr: api.Expr{Name: "x"}},
			{Name: "y", Refs: []api.Ref{ref("a", "")}},
			{Name: "n", Refs: []api.Ref{ref("no", ""), ref("a", "no"), ref("", ""), ref("A b", "c")}},
			{Name: "e"},
			{Name: "both", Refs: []api.Ref{ref("a", ""), ref("a", "")}, Expr: api.Expr{Kind: 9, Name: "?", Kids: make([]api.Expr, 3)}},
		}},
		{Name: "a", Rels: []api.Rel{{Name: "z", Refs: []api.Ref{ref("a", "")}}, {Name: "x", Refs: []api.Ref{ref("b", "x")}}}},
		{Name: "b"},
		{},
	}}
	for text, want := range map[string]api.Errno{
		"a:1#x@a:2": api.OK, "a:1#x@b:2": api.ErrType, "a:1#x@b:2#x": api.ErrType,
		"a:1#y@a:2": api.ErrType, "a:1#z@a:2": api.ErrName, "b:1#x@a:2": api.ErrName,
		"a:1#n@no:2": api.ErrName, "a:1#n@a:2#no": api.OK, "a:1#n@a:2": api.ErrType,
		"a:1#e@a:2": api.ErrType, "a:1#e@c:2": api.ErrName, "a:1#both@a:2": api.OK, "a:1#both@b:2": api.ErrType,
	} {
		l := named(t, text)
		if got := Allowed(s, l); got != want || modelAllowed(s, l) != want {
			t.Errorf("%q: %d, not %d", text, got, want)
		}
	}
}

// P1: an expression that contains itself, or another one time and again, does not matter.
func TestAllowedWithEndlessExpressions(t *testing.T) {
	around := make([]api.Expr, 2)
	around[0] = api.Expr{Kind: api.ENot, Kids: around}
	around[1] = around[0]
	again := api.Expr{Name: "x"}
	for range 200 {
		again = api.Expr{Kind: api.EOr, Kids: []api.Expr{again, again}}
	}
	for _, e := range []api.Expr{around[0], again} {
		s := api.Schema{Types: []api.Type{{Name: "a", Rels: []api.Rel{
			{Name: "x", Refs: []api.Ref{{Type: "a"}}, Expr: e},
			{Name: "y", Expr: e},
		}}}}
		for text, want := range map[string]api.Errno{
			"a:1#x@a:2": api.OK, "a:1#x@a:2#x": api.ErrType, "a:1#y@a:2": api.ErrType, "a:1#z@a:2": api.ErrName, "a:1#x@b:2": api.ErrName,
		} {
			if got := Allowed(s, named(t, text)); got != want {
				t.Errorf("%q: %d, not %d", text, got, want)
			}
		}
	}
}

// Random schemas and tuples, of few names, so that each answer is often met.
func TestAllowedAtRandom(t *testing.T) {
	r := rand.New(rand.NewSource(13))
	text := func() string {
		if r.Intn(40) == 0 {
			return "A b"
		}
		return []string{"a", "b", "c"}[r.Intn(3)]
	}
	orNone := func() string { return []string{"", "", text()}[r.Intn(3)] }
	var seen [20]int
	for range 60000 {
		var s api.Schema
		for range r.Intn(5) {
			x := api.Type{Name: text()}
			for range r.Intn(5) {
				rel := api.Rel{Name: text(), Expr: api.Expr{Name: text()}}
				for range r.Intn(4) {
					rel.Refs = append(rel.Refs, api.Ref{Type: text(), Rel: orNone()})
				}
				x.Rels = append(x.Rels, rel)
			}
			s.Types = append(s.Types, x)
		}
		l := tupleOf([6]string{text(), text(), text(), text(), text(), orNone()})
		got, want := Allowed(s, l), modelAllowed(s, l)
		if got != want {
			t.Fatalf("%v %q: %d, not %d", s, partsOf(l), got, want)
		}
		seen[got]++
	}
	for _, e := range []api.Errno{api.OK, api.ErrArg, api.ErrName, api.ErrType} {
		if seen[e] < 1000 {
			t.Errorf("error %d was met only %d times", e, seen[e])
		}
	}
}

// R3: the schema is left as it is.
func TestAllowedChangesNothing(t *testing.T) {
	const text = "type user type doc relation owner: user | doc#owner relation up: doc define can: owner - up.owner"
	s := parsed(t, text)
	before := lang.Print(s)
	for range 2 {
		for text, want := range map[string]api.Errno{"doc:1#owner@user:a": api.OK, "doc:1#can@user:a": api.ErrType, "doc:1#owner@doc:2#owner": api.OK, "user:1#up@doc:2": api.ErrName} {
			if got := Allowed(s, named(t, text)); got != want {
				t.Errorf("%q: %d, not %d", text, got, want)
			}
		}
	}
	if lang.Print(s) != before {
		t.Errorf("%q was changed into %q", before, lang.Print(s))
	}
}
