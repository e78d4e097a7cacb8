package graph

import (
	"slices"
	"strconv"
	"strings"
	"testing"

	"concierge/api"
	"concierge/names"
)

// P14.1, P14.2

// asked is a relation of an object, and all who are to stand in it.
type asked struct{ o, rel, want string }

func TestExamples(t *testing.T) {
	for _, e := range []struct {
		schema, tuples string
		asked          []asked
	}{
		{"type user type doc relation owner: user relation no: user define can: owner - no",
			"doc:1#owner@user:a doc:1#owner@user:b doc:1#no@user:b",
			[]asked{
				{"doc:1", "can", "user:a"}, {"doc:1", "owner", "user:a user:b"}, {"doc:1", "no", "user:b"},
				{"doc:2", "can", ""}, {"user:a", "can", ""}, {"group:1", "can", ""}, {"doc:1", "see", ""}, {"doc:1", "", ""},
			}},
		// Nobody stands in a relation without tuples.
		{"type user type doc relation owner: user define can: owner", "", []asked{{"doc:1", "can", ""}, {"doc:1", "owner", ""}}},
		// A subject with a Rel, more than one above another, and in a ring.
		{"type user type group relation member: user | group#member",
			"group:a#member@group:b#member group:b#member@group:c#member group:c#member@group:a#member group:c#member@user:x group:b#member@user:y group:d#member@group:d#member group:e#member@group:f#member",
			[]asked{
				{"group:a", "member", "user:x user:y"}, {"group:b", "member", "user:x user:y"}, {"group:c", "member", "user:x user:y"},
				{"group:d", "member", ""}, {"group:e", "member", ""},
			}},
		// A subject with a Rel whose relation is a defined one.
		{"type user type group relation member: user relation out: user define in: member - out type doc relation owner: user | group#in relation other: group#member",
			"group:a#member@user:x group:a#member@user:y group:a#out@user:y doc:1#owner@group:a#in doc:1#other@group:a#member doc:1#owner@user:z",
			[]asked{{"doc:1", "owner", "user:x user:z"}, {"doc:1", "other", "user:x user:y"}}},
		// An object stands in a relation by its own name, not by who stands in what to it.
		{"type user type group relation member: user type doc relation owner: group | group#member",
			"group:a#member@user:x doc:1#owner@group:a doc:2#owner@group:a#member doc:3#owner@group:a doc:3#owner@group:a#member",
			[]asked{{"doc:1", "owner", "group:a"}, {"doc:2", "owner", "user:x"}, {"doc:3", "owner", "group:a user:x"}}},
		// An arrow: only plain subjects, and only those whose type has the relation.
		{"type user type group relation see: user type folder relation up: folder | folder#up | group | user relation see: user define all: see + up.all define over: up.see",
			"folder:a#up@folder:b folder:b#up@folder:c folder:c#see@user:x folder:b#see@user:y folder:a#see@user:z folder:d#up@folder:b#up folder:d#up@group:g folder:d#up@user:u group:g#see@user:v folder:e#up@folder:e folder:e#see@user:w",
			[]asked{
				{"folder:a", "all", "user:x user:y user:z"}, {"folder:b", "all", "user:x user:y"}, {"folder:c", "all", "user:x"},
				{"folder:a", "over", "user:y"}, {"folder:b", "over", "user:x"}, {"folder:c", "over", ""},
				{"folder:d", "up", "folder:c group:g user:u"}, {"folder:d", "over", "user:v"}, {"folder:d", "all", ""},
				{"folder:e", "over", "user:w"}, {"folder:e", "all", "user:w"}, {"group:g", "see", "user:v"}, {"group:g", "all", ""},
			}},
		// Objects of the same ID, and relations of the same name, of different types.
		{"type user relation r: user type doc relation r: doc relation s: user define d: r.d + s",
			"user:1#r@user:1 doc:1#r@doc:1 doc:1#s@user:1 doc:2#r@doc:1",
			[]asked{{"user:1", "r", "user:1"}, {"doc:1", "r", "doc:1"}, {"doc:1", "d", "user:1"}, {"doc:2", "d", "user:1"}, {"doc:2", "s", ""}, {"user:1", "d", ""}}},
		// A defined relation that depends on itself alone.
		{"type user type doc relation r: user define a: a define b: b + r define c: d + c define d: c + b",
			"doc:1#r@user:x", []asked{{"doc:1", "a", ""}, {"doc:1", "b", "user:x"}, {"doc:1", "c", "user:x"}, {"doc:1", "d", "user:x"}}},
		// What is taken away more than once comes back.
		{"type user type doc relation a: user define b: a - no define c: a - b define d: a - c define e: d - (b - c) relation no: user",
			"doc:1#a@user:x doc:1#a@user:y doc:1#no@user:y doc:1#no@user:z",
			[]asked{{"doc:1", "b", "user:x"}, {"doc:1", "c", "user:y"}, {"doc:1", "d", "user:x"}, {"doc:1", "e", ""}}},
		// What an arrow leads to is taken away.
		{"type user type doc relation up: doc relation a: user define b: a - up.b define c: a - up.c2 define c2: a - up.a",
			"doc:1#a@user:x", []asked{{"doc:1", "a", ""}}}, // of no level, so that there is nothing at all
		{"type user type doc relation up: doc relation a: user define b: a - up.a define c: a - up.b",
			"doc:1#a@user:x doc:2#a@user:x doc:3#a@user:x doc:2#up@doc:1 doc:3#up@doc:2 doc:3#up@doc:4",
			[]asked{{"doc:1", "b", "user:x"}, {"doc:2", "b", ""}, {"doc:3", "b", ""}, {"doc:1", "c", "user:x"}, {"doc:2", "c", ""}, {"doc:3", "c", "user:x"}}},
		// A direct relation that stands above what it depends on by a subject with a Rel.
		{"type user type doc relation a: user relation no: user define can: a - no relation who: user | doc#can | doc#who define but: a - who",
			"doc:1#a@user:x doc:1#a@user:y doc:1#no@user:y doc:2#who@doc:1#can doc:2#who@user:z doc:3#who@doc:2#who doc:3#a@user:x doc:3#a@user:y",
			[]asked{{"doc:2", "who", "user:x user:z"}, {"doc:3", "who", "user:x user:z"}, {"doc:3", "but", "user:y"}, {"doc:1", "but", "user:x user:y"}}},
	} {
		s, l := parsed(t, e.schema), tuples(t, e.tuples)
		for _, a := range e.asked {
			checkMembers(t, s, l, a)
		}
		checkAll(t, s, l)
	}
}

// checkMembers asks for all who stand in a relation, and for each of them and somebody else by name.
func checkMembers(t *testing.T, s api.Schema, l []api.Tuple, a asked) {
	t.Helper()
	o := object(t, a.o)
	if got := show(Members(s, l, o, a.rel)); got != a.want {
		t.Errorf("%s %s: %q, not %q", a.o, a.rel, got, a.want)
	}
	for _, who := range strings.Fields("user:x user:y user:z user:nobody doc:1 group:a " + a.want) {
		if got := Holds(s, l, o, a.rel, object(t, who)); got != slices.Contains(strings.Fields(a.want), who) {
			t.Errorf("%s %s %s: %v", a.o, a.rel, who, got)
		}
	}
}

// Each kind of expression, for all of eight users who stand in each selection of three relations.
func TestExpressions(t *testing.T) {
	var l []api.Tuple
	for i := range 8 {
		for k, rel := range []string{"a", "b", "c"} {
			if i>>k&1 == 1 {
				l = append(l, tuples(t, "d:1#"+rel+"@u:"+strconv.Itoa(i))...)
			}
		}
	}
	l = append(l, tuples(t, "d:0#up@d:1")...)
	for expr, says := range map[string]func(a, b, c bool) bool{
		"a":               func(a, b, c bool) bool { return a },
		"a + b":           func(a, b, c bool) bool { return a || b },
		"a & b":           func(a, b, c bool) bool { return a && b },
		"a - b":           func(a, b, c bool) bool { return a && !b },
		"b - a":           func(a, b, c bool) bool { return b && !a },
		"(a + b) & c":     func(a, b, c bool) bool { return (a || b) && c },
		"a + b & c":       func(a, b, c bool) bool { return a || b && c },
		"a - b + c":       func(a, b, c bool) bool { return a && !b || c },
		"a - (b + c)":     func(a, b, c bool) bool { return a && !(b || c) },
		"a - (b - c)":     func(a, b, c bool) bool { return a && !(b && !c) },
		"a - b - c":       func(a, b, c bool) bool { return a && !b && !c },
		"a & (b - c)":     func(a, b, c bool) bool { return a && b && !c },
		"(a - b) + (b-a)": func(a, b, c bool) bool { return a != b },
		"a - a":           func(a, b, c bool) bool { return false },
		"(a+b+c) - (a-b)": func(a, b, c bool) bool { return (a || b || c) && !(a && !b) },
	} {
		over := expr
		for _, name := range []string{"a", "b", "c"} {
			over = strings.ReplaceAll(over, name, "up."+name)
		}
		s := parsed(t, "type u type d relation a: u relation b: u relation c: u relation up: d define e: "+expr+" define f: "+over+" define g: up.e")
		var want []string
		for i := range 8 {
			if says(i&1 == 1, i>>1&1 == 1, i>>2&1 == 1) {
				want = append(want, "u:"+strconv.Itoa(i))
			}
		}
		for _, a := range []asked{{"d:1", "e", ""}, {"d:0", "f", ""}, {"d:0", "g", ""}} {
			a.want = strings.Join(want, " ")
			checkMembers(t, s, l, a)
		}
	}
}

// Members are ordered by the bytes of their types, and then by those of their IDs.
func TestOrderOfMembers(t *testing.T) {
	s := parsed(t, "type z type a type ab type b_ type b0 type d relation r: z | a | ab | b_ | b0 | d | d#r")
	want := "a:- a:. a:0 a:10 a:9 a:A a:_ a:a a:aa ab:Z b0:1 b_:0 d:1 z:1"
	l := tuples(t, "d:1#r@z:1 d:1#r@d:2#r d:2#r@d:1")
	for _, who := range slices.Backward(strings.Fields(want)[:12]) {
		l = append(l, tuples(t, "d:1#r@"+who+" d:2#r@"+who)...)
	}
	checkMembers(t, s, l, asked{"d:1", "r", want})
	checkAll(t, s, l)
}

// By a schema with a fault, nobody stands in anything.
func TestSchemasWithFaults(t *testing.T) {
	l := tuples(t, "doc:1#r@user:a doc:1#x@user:a")
	for _, text := range []string{
		"type user type doc relation r: user define x: r - x",
		"type user type doc relation r: user define x: y",
		"type user type doc relation r: user relation x: user | z",
		"type user type doc relation r: user relation r: user",
		"type user type doc relation r: user type doc",
		"type user type doc relation r: user define x: x.r",
	} {
		checkMembers(t, parsed(t, text), l, asked{"doc:1", "r", ""})
	}
	checkMembers(t, api.Schema{}, l, asked{"doc:1", "r", ""})
	good := parsed(t, "type user type doc relation r: user")
	checkMembers(t, good, l, asked{"doc:1", "r", "user:a"})
	for range api.MaxTypes {
		good.Types = append(good.Types, api.Type{Name: "t" + strconv.Itoa(len(good.Types))})
	}
	checkMembers(t, good, l, asked{"doc:1", "r", ""})
}

// P14.3

// Tuples that the schema does not allow do not count: not for a direct relation, and not for an arrow.
func TestTuplesThatDoNotCount(t *testing.T) {
	s := parsed(t, "type user relation can: user type group relation member: user type doc relation owner: user | group#member relation up: doc define can: owner + up.can define over: up.owner")
	l := tuples(t, "doc:1#owner@user:a doc:1#owner@group:g#member group:g#member@user:b doc:2#up@doc:1")
	want := []asked{
		{"doc:1", "owner", "user:a user:b"}, {"doc:1", "can", "user:a user:b"}, {"doc:2", "can", "user:a user:b"},
		{"doc:2", "over", "user:a user:b"}, {"doc:3", "can", ""}, {"doc:3", "over", ""}, {"doc:3", "up", ""},
	}
	for range 2 {
		for _, a := range want {
			checkMembers(t, s, l, a)
		}
		checkAll(t, s, l)
		l = append(l, tuples(t, "doc:1#can@user:c doc:1#owner@group:g doc:1#owner@doc:1 doc:1#owner@doc:1#owner doc:1#owner@user:a#can doc:3#up@user:a doc:3#up@doc:1#up doc:3#up@group:g doc:1#nothing@user:c robot:1#owner@user:c user:a#can@robot:c doc:3#over@user:c group:g#member@group:g#member")...)
		l = append(l, api.Tuple{}, api.Tuple{O: object(t, "doc:1"), Rel: "owner"})
		for _, id := range []string{"", "a b", "\xff", "0123456789012345678901234"} {
			bad := api.Object{Type: "user", ID: id}
			l = append(l, api.Tuple{O: object(t, "doc:1"), Rel: "owner", S: api.Subject{O: bad}}, api.Tuple{O: api.Object{Type: "doc", ID: id}, Rel: "owner", S: api.Subject{O: object(t, "user:a")}})
			if Holds(s, l, object(t, "doc:1"), "owner", bad) || Holds(s, l, api.Object{Type: "doc", ID: id}, "owner", object(t, "user:a")) {
				t.Errorf("%q counts", id)
			}
		}
	}
}

// What one is oneself, or what one has, is no relation.
func TestOnlyPlainSubjectsStandInRelations(t *testing.T) {
	s := parsed(t, "type user type group relation member: user | group#member type doc relation owner: group#member relation up: doc define can: owner + up.can")
	l := tuples(t, "group:a#member@group:b#member doc:1#owner@group:a#member doc:1#up@doc:2")
	for _, q := range []asked{{"doc:1", "owner", ""}, {"doc:1", "can", ""}, {"doc:1", "up", "doc:2"}, {"group:a", "member", ""}, {"group:b", "member", ""}} {
		checkMembers(t, s, l, q)
	}
	for _, who := range strings.Fields("group:a group:b doc:1 doc:2") {
		if Holds(s, l, object(t, "doc:1"), "can", object(t, who)) {
			t.Error(who)
		}
	}
	if names.ShowSubject(l[0].S) != "group:b#member" {
		t.Error("the tuples have changed")
	}
}
