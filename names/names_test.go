package names

import (
	"math/rand"
	"regexp"
	"slices"
	"strings"
	"testing"
	"unsafe"

	"concierge/api"
)

// The calls as the chapter lists them: another signature does not compile.
var (
	_ func(s string) bool                = Name
	_ func(s string) bool                = ID
	_ func(s string) (api.Object, bool)  = Object
	_ func(s string) (api.Subject, bool) = Subject
	_ func(s string) (api.Tuple, bool)   = Tuple
	_ func(o api.Object) string          = ShowObject
	_ func(s api.Subject) string         = ShowSubject
	_ func(t api.Tuple) string           = ShowTuple
	_ func(a, b api.Tuple) bool          = Less
)

const (
	longName = "abcdefghijklm_09"         // 16 bytes
	longID   = "ABCxyz-0123456789._-abCD" // 24 bytes
)

// Texts that are a name or an ID, and those that are none.
var (
	goodNames = []string{"a", "z", "doc", "a_", "z9", "a0_b", "types", "defined", longName}
	goodIDs   = []string{"a", "Z", "0", "_", ".", "-", "type", "1.2-x_Y", longID}
	badNames  = []string{"", "A", "_a", "0a", "a-b", "a.b", "aB", "type", "relation", "define", longName + "a", "a:b", "a#b", "a@b", "a b", " a", "a\n", "a\x00", "\xff", "é"}
	badIDs    = []string{"", "a:b", "a#b", "a@b", "a b", " ", "a\n", "a\x00", "\xff", "é", longID + "a", "*", "a/b", "a+b"}
)

// What the chapter's words take, read by expressions.
const (
	aName = `[a-z][a-z0-9_]{0,15}`
	anID  = `[A-Za-z0-9_.\-]{1,24}`
)

var (
	nameForm    = regexp.MustCompile(`\A` + aName + `\z`)
	idForm      = regexp.MustCompile(`\A` + anID + `\z`)
	objectForm  = regexp.MustCompile(`\A(` + aName + `):(` + anID + `)\z`)
	subjectForm = regexp.MustCompile(`\A(` + aName + `):(` + anID + `)(?:#(` + aName + `))?\z`)
	tupleForm   = regexp.MustCompile(`\A(` + aName + `):(` + anID + `)#(` + aName + `)@(` + aName + `):(` + anID + `)(?:#(` + aName + `))?\z`)
)

func modelName(s string) bool {
	return nameForm.MatchString(s) && s != "type" && s != "relation" && s != "define"
}

func modelObject(s string) (api.Object, bool) {
	m := objectForm.FindStringSubmatch(s)
	if m == nil || !modelName(m[1]) {
		return api.Object{}, false
	}
	return object(m[1], m[2]), true
}

func modelSubject(s string) (api.Subject, bool) {
	m := subjectForm.FindStringSubmatch(s)
	if m == nil || !modelName(m[1]) || m[3] != "" && !modelName(m[3]) {
		return api.Subject{}, false
	}
	return subject(m[1], m[2], m[3]), true
}

func modelTuple(s string) (api.Tuple, bool) {
	m := tupleForm.FindStringSubmatch(s)
	if m == nil || !modelName(m[1]) || !modelName(m[3]) || !modelName(m[4]) || m[6] != "" && !modelName(m[6]) {
		return api.Tuple{}, false
	}
	return tuple([6]string(m[1:])), true
}

func object(typ, id string) api.Object { return api.Object{Type: typ, ID: id} }

func subject(typ, id, rel string) api.Subject { return api.Subject{O: object(typ, id), Rel: rel} }

// tuple is the tuple of its parts, in the order of P10.5.
func tuple(p [6]string) api.Tuple {
	return api.Tuple{O: object(p[0], p[1]), Rel: p[2], S: subject(p[3], p[4], p[5])}
}

func parts(t api.Tuple) [6]string {
	return [6]string{t.O.Type, t.O.ID, t.Rel, t.S.O.Type, t.S.O.ID, t.S.Rel}
}

// plain is a valid tuple's parts.
func plain() [6]string { return [6]string{"doc", "1", "viewer", "group", "eng", "member"} }

// checkText holds all that is asked of a text against the model, and what is printed again against the text.
func checkText(t *testing.T, s string) {
	t.Helper()
	if Name(s) != modelName(s) {
		t.Errorf("name %q: %v", s, Name(s))
	}
	if ID(s) != idForm.MatchString(s) {
		t.Errorf("ID %q: %v", s, ID(s))
	}
	o, isObject := Object(s)
	wantO, wantIsObject := modelObject(s)
	if o != wantO || isObject != wantIsObject || isObject && ShowObject(o) != s {
		t.Errorf("object %q: %q %v", s, o, isObject)
	}
	u, isSubject := Subject(s)
	wantU, wantIsSubject := modelSubject(s)
	if u != wantU || isSubject != wantIsSubject || isSubject && ShowSubject(u) != s {
		t.Errorf("subject %q: %q %v", s, u, isSubject)
	}
	l, isTuple := Tuple(s)
	wantL, wantIsTuple := modelTuple(s)
	if l != wantL || isTuple != wantIsTuple || isTuple && ShowTuple(l) != s {
		t.Errorf("tuple %q: %q %v", s, l, isTuple)
	}
}

// P10.1

func TestNamesAndIDs(t *testing.T) {
	for _, s := range goodNames {
		if !Name(s) {
			t.Errorf("%q is a name", s)
		}
		if !ID(s) {
			t.Errorf("%q is an ID", s)
		}
	}
	for _, s := range badNames {
		if Name(s) {
			t.Errorf("%q is no name", s)
		}
	}
	for _, s := range goodIDs {
		if !ID(s) {
			t.Errorf("%q is an ID", s)
		}
	}
	for _, s := range badIDs {
		if ID(s) {
			t.Errorf("%q is no ID", s)
		}
	}
}

// isOneOf is the classes of the bytes, written out.
func isOneOf(c int, list string) bool { return c < 128 && strings.Contains(list, string(rune(c))) }

func TestEachByte(t *testing.T) {
	const lower = "abcdefghijklmnopqrstuvwxyz"
	const inName = lower + "0123456789_"
	const inID = inName + "ABCDEFGHIJKLMNOPQRSTUVWXYZ.-"
	for c := range 256 {
		s := string([]byte{byte(c)})
		if Name(s) != isOneOf(c, lower) || Name(s+"a") != isOneOf(c, lower) {
			t.Errorf("byte %d begins a name: %v", c, Name(s))
		}
		for _, text := range []string{"a" + s, "a" + s + "a", "abcdefghijklmno" + s} {
			if Name(text) != isOneOf(c, inName) {
				t.Errorf("name %q: %v", text, Name(text))
			}
		}
		for _, text := range []string{s, "a" + s, s + "a", "a" + s + "a", longID[1:] + s, s + longID[1:]} {
			if ID(text) != isOneOf(c, inID) {
				t.Errorf("ID %q: %v", text, ID(text))
			}
		}
	}
}

func TestAllPairsOfBytes(t *testing.T) {
	for c := range 256 {
		for d := range 256 {
			checkText(t, string([]byte{byte(c), byte(d)}))
		}
	}
}

func TestLengths(t *testing.T) {
	for n := range 300 {
		for _, s := range []string{strings.Repeat("a", n), strings.Repeat("é", n)[:n], strings.Repeat("\x00", n)} {
			isText := n > 0 && s[0] == 'a'
			if Name(s) != (isText && n <= 16) {
				t.Errorf("name of %d bytes: %v", n, Name(s))
			}
			if ID(s) != (isText && n <= 24) {
				t.Errorf("ID of %d bytes: %v", n, ID(s))
			}
		}
	}
}

// The three words are no names; what is near them is.
func TestReservedWords(t *testing.T) {
	for _, word := range []string{"type", "relation", "define"} {
		if Name(word) || !ID(word) {
			t.Errorf("%q: %v %v", word, Name(word), ID(word))
		}
		for n := 1; n < len(word); n++ {
			if !Name(word[:n]) || !Name(word[n:]) {
				t.Errorf("%q and %q are names", word[:n], word[n:])
			}
		}
		for c := 'a'; c <= 'z'; c++ {
			if !Name(word+string(c)) || !Name(string(c)+word) {
				t.Errorf("%q beside %q makes a name", c, word)
			}
		}
		if !Name(word+"_") || !Name(word+"0") || !Name(word+word) || Name(strings.ToUpper(word)) {
			t.Errorf("what is near %q", word)
		}
	}
}

// P10.2, P10.3

func TestObjectExamples(t *testing.T) {
	examples := []struct {
		s    string
		o    api.Object
		isIt bool
	}{
		{"doc:1", object("doc", "1"), true},
		{"a:b", object("a", "b"), true},
		{"doc:type", object("doc", "type"), true},
		{"doc:-._", object("doc", "-._"), true},
		{longName + ":" + longID, object(longName, longID), true},
		{s: ""}, {s: ":"}, {s: "doc"}, {s: "doc:"}, {s: ":1"}, {s: "doc::1"}, {s: "doc:1:"}, {s: "doc:1:2"},
		{s: "Doc:1"}, {s: "doc:a b"}, {s: " doc:1"}, {s: "doc:1 "}, {s: "doc:1\n"}, {s: "doc :1"}, {s: "doc: 1"},
		{s: "doc:1#viewer"}, {s: "doc:1#"}, {s: "doc#1"}, {s: "doc:1@"}, {s: "type:1"}, {s: "relation:1"}, {s: "define:1"},
		{s: longName + "a:1"}, {s: "doc:" + longID + "a"}, {s: "doc：1"}, {s: "doc:é"},
	}
	for _, e := range examples {
		if o, isIt := Object(e.s); o != e.o || isIt != e.isIt {
			t.Errorf("%q: %q %v", e.s, o, isIt)
		}
		checkText(t, e.s)
	}
}

func TestSubjectExamples(t *testing.T) {
	examples := []struct {
		s    string
		u    api.Subject
		isIt bool
	}{
		{"user:a", subject("user", "a", ""), true},
		{"group:eng#member", subject("group", "eng", "member"), true},
		{longName + ":" + longID + "#" + longName, subject(longName, longID, longName), true},
		{s: ""}, {s: "#"}, {s: "user:a#"}, {s: "user:a##m"}, {s: "user:a#m#"}, {s: "user:a#m#n"}, {s: "#m"}, {s: "user#m"},
		{s: "user:#m"}, {s: ":a#m"}, {s: "User:a#m"}, {s: "user:a#M"}, {s: "user:a#type"}, {s: "user:a#relation"}, {s: "user:a#define"},
		{s: "type:a#m"}, {s: "user:a#m@user:b"}, {s: "user:a@m"}, {s: "user:a# m"}, {s: "user:a#m "}, {s: "user:a#_m"},
		{s: "user:a#" + longName + "a"}, {s: "user:" + longID + "a#m"},
	}
	for _, e := range examples {
		if u, isIt := Subject(e.s); u != e.u || isIt != e.isIt {
			t.Errorf("%q: %q %v", e.s, u, isIt)
		}
		checkText(t, e.s)
	}
}

func TestTupleExamples(t *testing.T) {
	examples := []struct {
		s    string
		l    api.Tuple
		isIt bool
	}{
		{"doc:1#viewer@group:eng#member", tuple(plain()), true},
		{"doc:1#owner@user:a", tuple([6]string{"doc", "1", "owner", "user", "a", ""}), true},
		{s: "doc:1#@user:a"}, {s: "doc:1#owner@"}, {s: "doc:1#owner"}, {s: "doc:1@user:a"}, {s: "#owner@user:a"}, {s: "doc:1"}, {s: ""}, {s: "#@"},
		{s: "doc:1##owner@user:a"}, {s: "doc:1#owner@@user:a"}, {s: "doc:1#owner@user:a#"}, {s: "doc:1#owner@user:a@user:b"},
		{s: "doc:1#owner#can@user:a"}, {s: "doc:1#owner@user:a#m#n"}, {s: "doc:1@owner#user:a"}, {s: "doc#owner@user:a"}, {s: "doc:1#owner@user"},
		{s: "Doc:1#owner@user:a"}, {s: "doc:1#Owner@user:a"}, {s: "doc:1#owner@User:a"}, {s: "doc:1#owner@user:a#M"},
		{s: "type:1#owner@user:a"}, {s: "doc:1#define@user:a"}, {s: "doc:1#owner@type:a"}, {s: "doc:1#owner@user:a#relation"},
		{s: "doc:1#owner@user:a b"}, {s: "doc:1 #owner@user:a"}, {s: "doc:1#owner@user:a\n"}, {s: "doc:1#owner @user:a"},
	}
	for _, e := range examples {
		if l, isIt := Tuple(e.s); l != e.l || isIt != e.isIt {
			t.Errorf("%q: %q %v", e.s, l, isIt)
		}
		checkText(t, e.s)
	}
}

// The longest text has 117 bytes; none of its parts can have one more.
func TestLongestParts(t *testing.T) {
	longest := [6]string{longName, longID, longName, longName, longID, longName}
	s := longName + ":" + longID + "#" + longName + "@" + longName + ":" + longID + "#" + longName
	if l, isIt := Tuple(s); !isIt || l != tuple(longest) || ShowTuple(l) != s || len(s) != 117 {
		t.Errorf("%q: %q %v", s, l, isIt)
	}
	for i := range longest {
		p := longest
		p[i] += "a"
		long := p[0] + ":" + p[1] + "#" + p[2] + "@" + p[3] + ":" + p[4] + "#" + p[5]
		if l, isIt := Tuple(long); isIt || l != (api.Tuple{}) || ShowTuple(tuple(p)) != "" {
			t.Errorf("%q: %q %v", long, l, isIt)
		}
	}
}

// Texts that are one byte away from a valid one.
func TestTextsNearby(t *testing.T) {
	for _, s := range []string{"doc:1", "a:B#c", "doc:1#viewer@group:eng#member", "a:1#b@c:2", "typ:e#defin@relatio:n", longName + ":" + longID + "#" + longName + "@a:b"} {
		checkText(t, s)
		for i := range len(s) {
			checkText(t, s[:i])
			checkText(t, s[i:])
			checkText(t, s[:i]+s[i+1:])
			checkText(t, s[:i]+s[i:i+1]+s[i:])
			for c := range 256 {
				b := string([]byte{byte(c)})
				checkText(t, s[:i]+b+s[i+1:])
				checkText(t, s[:i]+b+s[i:])
				checkText(t, s+b)
			}
		}
	}
}

// All short texts of the separators and what can stand between them.
func TestAllShortTexts(t *testing.T) {
	var all func(s string, n int)
	all = func(s string, n int) {
		checkText(t, s)
		for _, next := range []string{"a", "B", ":", "#", "@"} {
			if n > 0 {
				all(s+next, n-1)
			}
		}
	}
	all("", 6)
	all("a:b#c@", 5)
	all("a:b#c@d:e", 4)
}

// P10.4

func TestShowExamples(t *testing.T) {
	if s := ShowObject(object("doc", "1")); s != "doc:1" {
		t.Errorf("%q", s)
	}
	if s := ShowSubject(subject("user", "a", "")); s != "user:a" {
		t.Errorf("%q", s)
	}
	if s := ShowSubject(subject("group", "eng", "member")); s != "group:eng#member" {
		t.Errorf("%q", s)
	}
	if s := ShowTuple(tuple([6]string{"doc", "1", "owner", "user", "a", ""})); s != "doc:1#owner@user:a" {
		t.Errorf("%q", s)
	}
	if s := ShowTuple(tuple(plain())); s != "doc:1#viewer@group:eng#member" {
		t.Errorf("%q", s)
	}
	if ShowObject(api.Object{}) != "" || ShowSubject(api.Subject{}) != "" || ShowTuple(api.Tuple{}) != "" {
		t.Error("zero values have no text")
	}
}

// byWords is the text of a tuple's parts by the words of the chapter, or none if one of them is not valid.
func byWords(p [6]string) string {
	if !modelName(p[0]) || !idForm.MatchString(p[1]) || !modelName(p[2]) || !modelName(p[3]) || !idForm.MatchString(p[4]) || p[5] != "" && !modelName(p[5]) {
		return ""
	}
	s := p[0] + ":" + p[1] + "#" + p[2] + "@" + p[3] + ":" + p[4]
	if p[5] != "" {
		s += "#" + p[5]
	}
	return s
}

// checkParts holds the texts of a tuple, of its object and of its subject against their words, and parses them.
func checkParts(t *testing.T, p [6]string) {
	t.Helper()
	l := tuple(p)
	s := ShowTuple(l)
	if s != byWords(p) {
		t.Errorf("%q: %q", p, s)
	}
	if back, isIt := Tuple(s); isIt != (s != "") || isIt && back != l {
		t.Errorf("%q: %q: %q %v", p, s, back, isIt)
	}
	// A valid object and relation ahead let the subject's validity alone tell, and the other way round.
	u := ShowSubject(l.S)
	if want, _ := strings.CutPrefix(byWords([6]string{"a", "a", "a", p[3], p[4], p[5]}), "a:a#a@"); u != want {
		t.Errorf("%q: %q", l.S, u)
	}
	if back, isIt := Subject(u); isIt != (u != "") || isIt && back != l.S {
		t.Errorf("%q: %q: %q %v", l.S, u, back, isIt)
	}
	o := ShowObject(l.O)
	if want, _ := strings.CutSuffix(byWords([6]string{p[0], p[1], "a", "a", "a", ""}), "#a@a:a"); o != want {
		t.Errorf("%q: %q", l.O, o)
	}
	if back, isIt := Object(o); isIt != (o != "") || isIt && back != l.O {
		t.Errorf("%q: %q: %q %v", l.O, o, back, isIt)
	}
}

// Each part takes each text in its turn, the others being valid.
func TestShowOfEachPart(t *testing.T) {
	for i := range 6 {
		for _, s := range slices.Concat(goodNames, badNames, goodIDs, badIDs) {
			p := plain()
			p[i] = s
			checkParts(t, p)
			p[5] = ""
			checkParts(t, p)
		}
	}
}

// Parts with separators in them have no text, though their pieces side by side would look like one.
func TestSeparatorsInParts(t *testing.T) {
	for _, p := range [][6]string{
		{"doc:1#a@b", "c", "r", "user", "x", ""},
		{"doc", "1#a", "r", "user", "x", ""},
		{"doc", "1", "a@b:c#d", "user", "x", ""},
		{"doc", "1", "r", "user:x#a", "y", ""},
		{"doc", "1", "r", "user", "x#a", ""},
		{"doc", "1", "r", "user", "x", "a#b"},
		{"doc", "1", "r", "user", "x", "#a"},
	} {
		if s := ShowTuple(tuple(p)); s != "" {
			t.Errorf("%q: %q", p, s)
		}
		checkParts(t, p)
	}
}

// P10.5

// checkLess holds Less against a comparison of the parts one by one, byte by byte.
func checkLess(t *testing.T, a, b [6]string) {
	t.Helper()
	less := false
	for i := range a {
		if a[i] != b[i] {
			less = slices.Compare([]byte(a[i]), []byte(b[i])) < 0
			break
		}
	}
	if Less(tuple(a), tuple(b)) != less {
		t.Errorf("%q and %q: %v", a, b, !less)
	}
}

// The texts by increasing bytes, a proper prefix ahead of what it begins.
var increasing = []string{"", "\x00", "-", "0", "9", "A", "Z", "_", "a", "a\x00", "a0", "aa", "b", "\x7f", "\x80", "é", "\xff", "\xff\xff"}

func TestLessByEachPart(t *testing.T) {
	for i := range 6 {
		for m, low := range increasing {
			for n, high := range increasing {
				a, b := plain(), plain()
				a[i], b[i] = low, high
				if Less(tuple(a), tuple(b)) != (m < n) {
					t.Errorf("%q and %q: %v", a, b, m >= n)
				}
			}
		}
	}
}

// The first part that differs decides, whatever those behind it are.
func TestFirstDifferenceDecides(t *testing.T) {
	for i := range 6 {
		for k := i + 1; k < 6; k++ {
			a, b := plain(), plain()
			a[i], b[i] = "a", "b"
			a[k], b[k] = "y", "x"
			if !Less(tuple(a), tuple(b)) || Less(tuple(b), tuple(a)) {
				t.Errorf("%q and %q", a, b)
			}
		}
		a, b := plain(), plain()
		for k := i; k < 6; k++ {
			a[k], b[k] = "y", "x"
		}
		a[i], b[i] = "a", "ab"
		if !Less(tuple(a), tuple(b)) || Less(tuple(b), tuple(a)) {
			t.Errorf("%q and %q", a, b)
		}
	}
}

// The order of the texts is another one, for a separator can be above a byte of a longer part.
func TestLessIsNotTheOrderOfTexts(t *testing.T) {
	for _, pair := range [][2]string{
		{"doc:1#a@user:x", "doc1:1#a@user:x"},
		{"doc:1#a@user:x", "doc:1#a1@user:x"},
		{"doc:1#a@user:x", "doc:1#a@user1:x"},
	} {
		a, isA := Tuple(pair[0])
		b, isB := Tuple(pair[1])
		if !isA || !isB || pair[0] < pair[1] || !Less(a, b) || Less(b, a) {
			t.Errorf("%q and %q: %v %v", pair[0], pair[1], Less(a, b), Less(b, a))
		}
	}
}

// randomParts are parts that are often the same as others, or begin with them.
func randomParts(r *rand.Rand) [6]string {
	p := plain()
	for i := range p {
		switch r.Intn(4) {
		case 0:
			p[i] = increasing[r.Intn(len(increasing))]
		case 1:
			p[i] = goodNames[r.Intn(len(goodNames))]
		case 2:
			p[i] = p[r.Intn(6)]
		}
	}
	return p
}

func TestLessOfAnyTuples(t *testing.T) {
	r := rand.New(rand.NewSource(10))
	var all [][6]string
	for range 400 {
		all = append(all, randomParts(r))
	}
	for _, a := range all {
		for _, b := range all {
			checkLess(t, a, b)
		}
	}
}

// A sort by Less is the sort by the lists of the parts.
func TestSortByLess(t *testing.T) {
	r := rand.New(rand.NewSource(5))
	var l []api.Tuple
	for range 2000 {
		l = append(l, tuple(randomParts(r)))
	}
	slices.SortFunc(l, func(a, b api.Tuple) int {
		switch {
		case Less(a, b):
			return -1
		case Less(b, a):
			return 1
		}
		return 0
	})
	for i := 1; i < len(l); i++ {
		a, b := parts(l[i-1]), parts(l[i])
		if slices.Compare(a[:], b[:]) > 0 {
			t.Fatalf("%q stands ahead of %q", a, b)
		}
	}
}

// P10.6

func TestRoundTrips(t *testing.T) {
	rels := append([]string{""}, goodNames...)
	for _, name := range goodNames {
		for _, id := range goodIDs {
			checkText(t, name+":"+id)
			for _, rel := range rels {
				checkParts(t, [6]string{name, id, "a", name, id, rel})
				checkParts(t, [6]string{"a", "1", name, name, id, rel})
				checkParts(t, [6]string{name, id, name, "b", "2", rel})
			}
		}
	}
}

// P1

// Texts that are far too long are answered as well, also where they are full of separators.
func TestHugeTexts(t *testing.T) {
	const size = 1 << 22
	for _, piece := range []string{"a", ":", "#", "@", "a:b#c@", "\x00", "\xff", "é", "doc:1#viewer@group:eng#member"} {
		s := strings.Repeat(piece, size/len(piece))
		for _, text := range []string{s, "a:b#c@" + s, "a:b#" + s, "a:" + s, s + "a:b", "a:b#c@d:e#f" + s} {
			o, isObject := Object(text)
			u, isSubject := Subject(text)
			l, isTuple := Tuple(text)
			if isObject || isSubject || isTuple || Name(text) || ID(text) {
				t.Errorf("a text of many %q is none", piece)
			}
			if o != (api.Object{}) || u != (api.Subject{}) || l != (api.Tuple{}) {
				t.Errorf("a text of many %q: not zero", piece)
			}
		}
		huge := tuple([6]string{s, s, s, s, s, s})
		if ShowTuple(huge) != "" || ShowSubject(huge.S) != "" || ShowObject(huge.O) != "" || Less(huge, huge) {
			t.Errorf("parts of many %q", piece)
		}
	}
}

// R3: what is answered has none of the argument's memory.

func within(part, s string) bool {
	from := uintptr(unsafe.Pointer(unsafe.StringData(s)))
	at := uintptr(unsafe.Pointer(unsafe.StringData(part)))
	return part != "" && at >= from && at < from+uintptr(len(s))
}

func TestAnswersAreNewMemory(t *testing.T) {
	s := string([]byte("doc:1#viewer@group:eng#member"))
	l, _ := Tuple(s)
	u, _ := Subject(s[13:])
	o, _ := Object(s[:5])
	p := parts(l)
	for _, part := range append(p[:], u.O.Type, u.O.ID, u.Rel, o.Type, o.ID) {
		if part == "" || within(part, s) {
			t.Errorf("%q shares the text's memory", part)
		}
	}
}

// Fuzz: any bytes as a text and as parts.
func FuzzNames(f *testing.F) {
	f.Add("doc:1#viewer@group:eng#member", "doc", "1", "viewer")
	f.Add("doc:1#@user:a", "", "", "")
	f.Add("Doc:1", "type", longID, longName)
	f.Add("doc:a b", "a:b", "c#d", "e@f")
	f.Add("\xff#\x00@é", "\xff", "\x00", "é")
	f.Fuzz(func(t *testing.T, s, a, b, c string) {
		checkText(t, s)
		checkText(t, a+":"+b+"#"+c)
		checkText(t, a+":"+b+"#"+c+"@"+s)
		for _, p := range [][6]string{{a, b, c, a, b, ""}, {a, b, c, c, b, a}, {c, s, a, "a", "1", "a"}, {"a", "1", "a", a, b, c}} {
			checkParts(t, p)
			checkLess(t, p, [6]string{a, b, c, c, b, a})
			checkLess(t, p, [6]string{a, b, c, a, b, s})
			checkLess(t, p, p)
		}
	})
}
