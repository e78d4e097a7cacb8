package lang

import (
	"math/rand"
	"slices"
	"strings"
	"testing"
	"unsafe"

	"concierge/api"
)

const longName = "abcdefghijklm_09" // 16 bytes

// ahead is what an expression stands behind; its 17 bytes are what the columns in these tests begin with.
const ahead = "type d define p: "

// checkText holds what is asked of a text against the model, and prints and parses again what it is.
func checkText(t *testing.T, text string) {
	t.Helper()
	s, d := Parse(text)
	wantS, wantD := modelParse(text)
	if d != wantD || !same(s, wantS) {
		t.Errorf("%q: %v %v, not %v %v", text, d, s, wantD, wantS)
	}
	if d.E != api.OK {
		return
	}
	printed := Print(s)
	if !May(s) || (printed == "") != (len(s.Types) == 0) {
		t.Errorf("%q: prints %q, may %v", text, printed, May(s))
	}
	if again, d := Parse(printed); len(printed) <= 4096 && (d != (api.Diag{}) || !same(again, s)) {
		t.Errorf("%q: prints %q, which is %v %v", text, printed, d, again)
	}
}

func isAt(t *testing.T, text string, line, col int, e api.Errno) {
	t.Helper()
	s, d := Parse(text)
	if want := (api.Diag{Line: line, Col: col, E: e}); d != want || len(s.Types) > 0 {
		t.Errorf("%q: %v, not %v, and %v", text, d, want, s)
	}
	checkText(t, text)
}

func isSchema(t *testing.T, text string, want api.Schema) {
	t.Helper()
	if s, d := Parse(text); d != (api.Diag{}) || !same(s, want) {
		t.Errorf("%q: %v %v, not %v", text, d, s, want)
	}
	checkText(t, text)
}

// isExpr parses an expression and tells its text.
func isExpr(t *testing.T, text, want string) {
	t.Helper()
	s, d := Parse(ahead + text)
	if d != (api.Diag{}) || len(s.Types) != 1 || len(s.Types[0].Rels) != 1 {
		t.Fatalf("%q: %v %v", text, d, s)
	}
	if got := Expr(s.Types[0].Rels[0].Expr); got != want {
		t.Errorf("%q: %q, not %q", text, got, want)
	}
	checkText(t, ahead+text)
}

// P11.1: what the grammar has

func TestSchemas(t *testing.T) {
	isSchema(t, "", api.Schema{})
	isSchema(t, " \t\n\n \t", api.Schema{})
	isSchema(t, "type a", api.Schema{Types: []api.Type{{Name: "a"}}})
	isSchema(t, "type a type a", api.Schema{Types: []api.Type{{Name: "a"}, {Name: "a"}}})
	isSchema(t, "type user type doc relation owner: user define can: owner + owner & owner", api.Schema{Types: []api.Type{
		{Name: "user"},
		{Name: "doc", Rels: []api.Rel{
			direct("owner", api.Ref{Type: "user"}),
			defined("can", or(rel("owner"), and(rel("owner"), rel("owner")))),
		}},
	}})
	isSchema(t, "type a define b: c relation d: e # f | g define h: i . j type k relation l: m#n", api.Schema{Types: []api.Type{
		{Name: "a", Rels: []api.Rel{
			defined("b", rel("c")),
			direct("d", api.Ref{Type: "e", Rel: "f"}, api.Ref{Type: "g"}),
			defined("h", arrow("i", "j")),
		}},
		{Name: "k", Rels: []api.Rel{direct("l", api.Ref{Type: "m", Rel: "n"})}},
	}})
	isSchema(t, "type "+longName+" define "+longName+":"+longName+"."+longName, api.Schema{Types: []api.Type{
		{Name: longName, Rels: []api.Rel{defined(longName, arrow(longName, longName))}},
	}})
}

// Tokens need nothing between them but for words beside words, and may have any blanks, tabs and line feeds.
func TestSeparators(t *testing.T) {
	want := api.Schema{Types: []api.Type{{Name: "a", Rels: []api.Rel{
		direct("b", api.Ref{Type: "c", Rel: "d"}, api.Ref{Type: "e"}),
		defined("f", not(and(arrow("g", "h"), rel("i")), or(rel("j"), rel("k")))),
	}}}}
	tokens := strings.Fields("type a relation b : c # d | e define f : g . h & i - ( j + k )")
	isSchema(t, "type a relation b:c#d|e define f:g.h&i-(j+k)", want)
	for _, between := range []string{" ", "\t", "\n", "  ", " \n\t\n "} {
		isSchema(t, strings.Join(tokens, between), want)
		isSchema(t, between+strings.Join(tokens, between)+between, want)
	}
}

// Operators are left-associative, and & binds more.
func TestOperators(t *testing.T) {
	isExpr(t, "a", "a")
	isExpr(t, "a.b", "a.b")
	isExpr(t, "(a)", "a")
	isExpr(t, "((a.b))", "a.b")
	isExpr(t, "a + b", "(a + b)")
	isExpr(t, "a - b", "(a - b)")
	isExpr(t, "a & b", "(a & b)")
	isExpr(t, "a + b + c", "((a + b) + c)")
	isExpr(t, "a - b - c", "((a - b) - c)")
	isExpr(t, "a & b & c", "((a & b) & c)")
	isExpr(t, "a + b - c + d", "(((a + b) - c) + d)")
	isExpr(t, "a - b + c", "((a - b) + c)")
	isExpr(t, "a + b & c", "(a + (b & c))")
	isExpr(t, "a & b + c", "((a & b) + c)")
	isExpr(t, "a - b & c - d", "((a - (b & c)) - d)")
	isExpr(t, "a & b - c & d & e", "((a & b) - ((c & d) & e))")
	isExpr(t, "a - (b - c)", "(a - (b - c))")
	isExpr(t, "(a + b) & c", "((a + b) & c)")
	isExpr(t, "a & (b + c) & d.e", "((a & (b + c)) & d.e)")
	isExpr(t, "((a) + ((b)))", "(a + b)")
}

// What an operation, a relation and the others do not have is zero.
func TestParseLeavesOutWhatIsNotThere(t *testing.T) {
	s, _ := Parse("type a relation b: c define d: e.f - g")
	r, e := s.Types[0].Rels[0], s.Types[0].Rels[1].Expr
	if !sameExpr(r.Expr, api.Expr{}) || r.Refs[0].Rel != "" || len(s.Types[0].Rels[1].Refs) != 0 {
		t.Errorf("%v", s)
	}
	if e.Kind != 4 || e.Name != "" || e.Over != "" || len(e.Kids) != 2 || e.Kids[1].Over != "" || len(e.Kids[0].Kids) != 0 || len(e.Kids[1].Kids) != 0 {
		t.Errorf("%v", e)
	}
}

// P11.1: ErrToken

func TestTokensThatCannotFollow(t *testing.T) {
	for _, e := range []struct {
		text      string
		line, col int
	}{
		{"type a relation", 1, 16}, // the chapter's example
		{"type a relation ", 1, 17},
		{"type a relation\n", 2, 1},
		{"type a relation \n\n\t ", 3, 3},
		{"type", 1, 5},
		{"a", 1, 1}, {"relation a: b", 1, 1}, {"define a: b", 1, 1}, {"  :", 1, 3}, {"types a", 1, 1}, {"typ", 1, 1}, {"\n\n x", 3, 2},
		{"type type", 1, 6}, {"type relation", 1, 6}, {"type define", 1, 6}, {"type :", 1, 6}, {"type (a)", 1, 6},
		{"type " + longName + "a", 1, 6},
		{"type a b", 1, 8}, {"type a: b", 1, 7}, {"type a.b", 1, 7}, {"type a types b", 1, 8}, {"type a typeb", 1, 8},
		{"type a relation b", 1, 18}, {"type a relation b c", 1, 19}, {"type a relation type: b", 1, 17}, {"type a relation b:", 1, 19},
		{"type a relation b: (c)", 1, 20}, {"type a relation b: c + d", 1, 22}, {"type a relation b: c.d", 1, 21}, {"type a relation b: c |", 1, 23},
		{"type a relation b: c || d", 1, 23}, {"type a relation b: | c", 1, 20}, {"type a relation b: c #", 1, 23}, {"type a relation b: c # d # e", 1, 26},
		{"type a relation b: c d", 1, 22}, {"type a relation b: c | define", 1, 24}, {"type a relation b: c#type", 1, 22}, {"type a relation b: c:d", 1, 21},
		{"type a relation b: c define", 1, 28}, {"type a relation b: c relation", 1, 30}, {"type a relation b: c type", 1, 26},
		{"type a define b", 1, 16}, {"type a define b:", 1, 17}, {"type a define b: c |", 1, 20}, {"type a define b: c#d", 1, 19}, {"type a define b: c d", 1, 20},
		{"type a define b: +", 1, 18}, {"type a define b: c +", 1, 21}, {"type a define b: c + - d", 1, 22}, {"type a define b: c & & d", 1, 22}, {"type a define b: c.", 1, 20},
		{"type a define b: c.d.e", 1, 21}, {"type a define b: c.(d)", 1, 20}, {"type a define b: (c).d", 1, 21}, {"type a define b: .c", 1, 18},
		{"type a define b: ()", 1, 19}, {"type a define b: (c", 1, 20}, {"type a define b: c)", 1, 19}, {"type a define b: (c))", 1, 21}, {"type a define b: (c d)", 1, 21},
		{"type a define b: (c type d", 1, 21}, {"type a define b: (c\ndefine e: f)", 2, 1}, {"type a define b: c (d)", 1, 20}, {"type a define b: (c) d", 1, 22},
		{"type a define b: type", 1, 18}, {"type a define b: c + type d", 1, 22}, {"type a define b: c &\n define", 2, 2},
		{"type a\ntype b\n  define c: d\n  define e f", 4, 12},
	} {
		isAt(t, e.text, e.line, e.col, api.ErrToken)
	}
}

func TestBytesThatBeginNoToken(t *testing.T) {
	for _, s := range []string{"A", "Z", "_", "0", "9", "\r", "\v", "\f", "\x00", "\x7f", "\x80", "\xff", "é", "\u00a0", ",", ";", "=", "*", "/", "!", "\"", "'", "@", "[", "{", "~", "`", "^"} {
		isAt(t, s, 1, 1, api.ErrToken)
		isAt(t, "type "+s, 1, 6, api.ErrToken)
		isAt(t, "type a"+s[:1]+" b", 1, map[bool]int{true: 9, false: 7}[s == "_" || s == "0" || s == "9"], api.ErrToken)
		isAt(t, "type a "+s, 1, 8, api.ErrToken)
		isAt(t, "\n\ntype a\n\t"+s, 4, 2, api.ErrToken)
		isAt(t, ahead+s, 1, 18, api.ErrToken)
		isAt(t, ahead+"(a "+s, 1, 21, api.ErrToken)
		isAt(t, ahead+"a "+s, 1, 20, api.ErrToken)
	}
	// Columns count bytes, and an earlier error is the one that counts.
	isAt(t, "type a é é", 1, 8, api.ErrToken)
	isAt(t, "type b: é", 1, 7, api.ErrToken)
}

// A word ends where a byte stands that is in none, and is not cut where it becomes too long for a name.
func TestWords(t *testing.T) {
	isSchema(t, "type a0_ relation b_9:c__|d00", api.Schema{Types: []api.Type{{Name: "a0_", Rels: []api.Rel{
		direct("b_9", api.Ref{Type: "c__"}, api.Ref{Type: "d00"}),
	}}}})
	for _, place := range []string{"type x", "type t relation x: a", "type t define x: a", "type t relation r: x", "type t relation r: a#x", "type t define p: x", "type t define p: a.x", "type t define p: a + (x)"} {
		at := strings.IndexByte(place, 'x')
		for n := 1; n < 40; n++ {
			word := strings.Repeat("z9_", n)[:n]
			text := place[:at] + word + place[at+1:]
			if n <= 16 {
				if _, d := Parse(text); d != (api.Diag{}) {
					t.Errorf("%q: %v", text, d)
				}
				checkText(t, text)
			} else {
				isAt(t, text, 1, at+1, api.ErrToken)
			}
		}
		for _, word := range []string{"type", "relation", "define"} {
			isAt(t, place[:at]+word+place[at+1:], 1, at+1, api.ErrToken)
			checkText(t, place[:at]+word+"s"+place[at+1:])
			if _, d := Parse(place[:at] + word + "s" + place[at+1:]); d != (api.Diag{}) {
				t.Errorf("%q: %v", word, d)
			}
		}
	}
}

// P11.1: ErrLong

func TestLongTexts(t *testing.T) {
	text := "type a define b: c"
	fill := strings.Repeat(" ", 4096-len(text))
	if s, d := Parse(text + fill); d != (api.Diag{}) || len(s.Types) != 1 {
		t.Errorf("4096 bytes: %v %v", d, s)
	}
	if s, d := Parse(fill + text); d != (api.Diag{}) || len(s.Types) != 1 {
		t.Errorf("4096 bytes: %v %v", d, s)
	}
	isAt(t, text+fill+" ", 1, 1, api.ErrLong)
	isAt(t, "\n"+fill+text, 1, 1, api.ErrLong)
	isAt(t, strings.Repeat("\n", 4096)+"type a", 1, 1, api.ErrLong)
	isAt(t, strings.Repeat("A", 4096), 1, 1, api.ErrToken)
	isAt(t, strings.Repeat("A", 4097), 1, 1, api.ErrLong)
	isAt(t, ahead+strings.Repeat("(", 4096), 1, 1, api.ErrLong)
	isAt(t, strings.Repeat("\n", 4096), 0, 0, api.OK)
	isAt(t, strings.Repeat("\n", 4095)+"a", 4096, 1, api.ErrToken)
	isAt(t, "type "+strings.Repeat("a", 4091), 1, 6, api.ErrToken)
	isAt(t, strings.Repeat("type a", 1<<20), 1, 1, api.ErrLong)
}

// P11.1: ErrDeep

// around is an a in n parentheses.
func around(n int) string { return strings.Repeat("(", n) + "a" + strings.Repeat(")", n) }

// chain is n operations one after the other, so it has a height of n+1.
func chain(n int, operators string) string {
	text := "a"
	for i := range n {
		text += operators[i%len(operators):][:1] + "a"
	}
	return text
}

func TestOpenParentheses(t *testing.T) {
	for n := range 40 {
		col := 18 + 12
		switch {
		case n <= 12:
			isExpr(t, around(n), "a")
			isAt(t, ahead+strings.Repeat("(", n), 1, 18+n, api.ErrToken)
			isAt(t, ahead+around(n)+")", 1, 19+2*n, api.ErrToken)
		default:
			isAt(t, ahead+around(n), 1, col, api.ErrDeep)
			isAt(t, ahead+strings.Repeat("(", n), 1, col, api.ErrDeep)
			isAt(t, ahead+strings.Repeat("(", n)+"$", 1, col, api.ErrDeep)
		}
	}
	// What is closed is not open any more, also from one relation to the next.
	isExpr(t, around(12)+"+"+around(12)+"&"+around(12), "(a + (a & a))")
	isAt(t, ahead+around(12)+"+"+around(13), 1, 18+25+1+12, api.ErrDeep)
	isExpr(t, "((((((((((("+around(1)+"-"+around(1)+")))))))))))", "(a - a)")
	isAt(t, ahead+"((((((((((("+around(1)+"-"+around(2)+")))))))))))", 1, 18+11+3+1+1, api.ErrDeep)
	if _, d := Parse(ahead + around(12) + " define q: " + around(12) + " type e define p: " + around(12)); d != (api.Diag{}) {
		t.Error(d)
	}
	isAt(t, ahead+around(12)+"\ndefine q: "+around(13), 2, 11+12, api.ErrDeep)
	// One that cannot stand there is no open one.
	isAt(t, ahead+strings.Repeat("(", 12)+"a(", 1, 18+13, api.ErrToken)
	isAt(t, ahead+strings.Repeat("(", 12)+"a.(", 1, 18+14, api.ErrToken)
	isAt(t, strings.Repeat("(", 13), 1, 1, api.ErrToken)
	isAt(t, "type a relation b: "+strings.Repeat("(", 13), 1, 20, api.ErrToken)
	// The first error counts.
	isAt(t, ahead+"a + + "+around(13), 1, 22, api.ErrToken)
	isAt(t, ahead+around(13)+"$", 1, 30, api.ErrDeep)
}

func TestHighOperations(t *testing.T) {
	for _, operators := range []string{"+", "-", "&", "+-", "-++"} {
		if _, d := Parse(ahead + chain(11, operators)); d != (api.Diag{}) {
			t.Errorf("%q: %v", operators, d)
		}
		for n := 12; n < 30; n++ {
			isAt(t, ahead+chain(n, operators), 1, 17+2*12, api.ErrDeep)
		}
	}
	// Parentheses do not count for the height, and arrows have one of 1.
	isExpr(t, "("+around(11)+"+"+around(11)+")", "(a + a)")
	if s, d := Parse(ahead + strings.ReplaceAll(chain(11, "+"), "a", "(a.b)")); d != (api.Diag{}) || Height(s.Types[0].Rels[0].Expr) != 12 {
		t.Errorf("%v %v", d, s)
	}
	isAt(t, ahead+strings.ReplaceAll(chain(12, "-"), "a", "a.b"), 1, 17+12*4, api.ErrDeep)
	// Each expression has a height of its own.
	if _, d := Parse(ahead + chain(11, "+") + " define q: " + chain(11, "&")); d != (api.Diag{}) {
		t.Error(d)
	}
	isAt(t, ahead+"a\n define q:"+chain(12, "&"), 2, 10+2*12, api.ErrDeep)
}

// Of operations to the right of one another, the first one is too high, and that is found last.
func TestHighToTheRight(t *testing.T) {
	right := func(n int) string { return strings.Repeat("a+(", n-1) + "a+a" + strings.Repeat(")", n-1) }
	if _, d := Parse(ahead + right(11)); d != (api.Diag{}) {
		t.Error(d)
	}
	isAt(t, ahead+right(12), 1, 19, api.ErrDeep)
	isAt(t, ahead+right(13), 1, 22, api.ErrDeep)
	isAt(t, ahead+right(14), 1, 18+3*12+2, api.ErrDeep) // the 13th (
	isAt(t, ahead+right(12)+")", 1, 19, api.ErrDeep)
	isAt(t, ahead+strings.TrimSuffix(right(12), ")"), 1, 18+len(right(12))-1, api.ErrToken)
	isAt(t, ahead+"a + ("+chain(11, "&")+")", 1, 20, api.ErrDeep)
	isAt(t, ahead+"a - a & ("+chain(10, "&")+")", 1, 20, api.ErrDeep)
	isAt(t, ahead+"a - a & ("+chain(11, "&")+")", 1, 24, api.ErrDeep)
	isExpr(t, "a - a & ("+chain(2, "&")+")", "(a - (a & ((a & a) & a)))")
}

// The height is looked at when both operands have been read: what is wrong in the second one comes first, what is wrong behind it comes later.
func TestWhenTheHeightIsLookedAt(t *testing.T) {
	high := ahead + chain(11, "+")
	at := 18 + len(chain(11, "+"))
	for _, behind := range []string{"a", "(a)", "a.b", "a&a", "a&(a-a)"} {
		isAt(t, high+"+"+behind, 1, at, api.ErrDeep)
		for _, next := range []string{" ", "$", " b", ")", ".", ":", "(", "+", "- a", " type", " type t", " define", "\n|"} {
			if next == "." && (behind == "a" || behind == "a&a") {
				continue // it goes on with the second operand
			}
			isAt(t, high+"-"+behind+next, 1, at, api.ErrDeep)
		}
	}
	for _, behind := range []string{"", "$", "+", "(a", "(a $", "a.", "a.$", "a &", "a & $", "a & (a + )", "a.type"} {
		_, d := Parse(high + "+" + behind)
		if d.E != api.ErrToken || d.Col <= at {
			t.Errorf("%q: %v", behind, d)
		}
		checkText(t, high+"+"+behind)
	}
	isAt(t, high+"+"+around(13), 1, at+13, api.ErrDeep)
	// An & is done ahead of the + whose operand it is in, and a + when it is followed by another one.
	product := ahead + chain(11, "&")
	isAt(t, product+"&a+", 1, at, api.ErrDeep)
	isAt(t, product+"&a&", 1, at, api.ErrDeep)
	isAt(t, high+"+"+chain(12, "&"), 1, at+2*12, api.ErrDeep)
	isAt(t, high+"+"+chain(11, "&")+"+", 1, at, api.ErrDeep)
	isAt(t, high+"+"+chain(11, "&")+"&", 1, at+1+len(chain(11, "&"))+1, api.ErrToken)
}

// P11.1, P11.5: whole sets of texts against the model

// Each token in each place, as far as four tokens go.
func TestAllShortTexts(t *testing.T) {
	tokens := []string{"type", "relation", "define", "a", "B", ":", "|", "#", "+", "-", "&", ".", "(", ")"}
	var all func(text string, n int)
	all = func(text string, n int) {
		checkText(t, text)
		for _, token := range tokens {
			if n > 0 {
				all(text+" "+token, n-1)
			}
		}
	}
	all("", 4)
	all("type a relation b: c", 3)
	all("type a define b: c", 4)
	all("type a define b: (c", 4)
	all("type a define b: c & ((d", 3)
}

const sample = "type user\ntype doc\n  relation owner: user | group#member\n\tdefine can: (owner - parent.can) & owner + (a)\n"

// Texts that are one byte away from a schema.
func TestTextsNearby(t *testing.T) {
	isSchema(t, sample, api.Schema{Types: []api.Type{{Name: "user"}, {Name: "doc", Rels: []api.Rel{
		direct("owner", api.Ref{Type: "user"}, api.Ref{Type: "group", Rel: "member"}),
		defined("can", or(and(not(rel("owner"), arrow("parent", "can")), rel("owner")), rel("a"))),
	}}}})
	for i := range len(sample) {
		checkText(t, sample[:i])
		checkText(t, sample[i:])
		checkText(t, sample[:i]+sample[i+1:])
		for c := range 256 {
			b := string([]byte{byte(c)})
			checkText(t, sample[:i]+b+sample[i+1:])
			checkText(t, sample[:i]+b+sample[i:])
		}
	}
}

// randomText follows the grammar for most of its length, with errors here and there.
func randomText(r *rand.Rand, wrong int) string {
	var b strings.Builder
	var expr func(deep int)
	name := func() string { return []string{"a", "b0", "doc", "x_y", longName}[r.Intn(5)] }
	put := func(token string) {
		if wrong > 0 && r.Intn(wrong) == 0 {
			token = []string{"", token + token, "type", "(", ")", "$", "+", "&", "a", "A", ".", longName + "x"}[r.Intn(12)]
		}
		b.WriteString(token)
		b.WriteString([]string{" ", " ", "\t", "\n", "\n  "}[r.Intn(5)])
	}
	expr = func(deep int) {
		for k := range 1 + r.Intn(4) {
			if k > 0 {
				put([]string{"+", "-", "&"}[r.Intn(3)])
			}
			switch {
			case deep > 0 && r.Intn(2) == 0:
				put("(")
				expr(deep - 1)
				put(")")
			case r.Intn(3) == 0:
				put(name())
				put(".")
				put(name())
			default:
				put(name())
			}
		}
	}
	for range r.Intn(4) {
		put("type")
		put(name())
		for range r.Intn(4) {
			if r.Intn(2) == 0 {
				put("relation")
				put(name())
				put(":")
				put(name())
				for range r.Intn(3) {
					put([]string{"|", "|", "#"}[r.Intn(3)])
					put(name())
				}
				continue
			}
			put("define")
			put(name())
			put(":")
			expr(r.Intn(15))
		}
	}
	return b.String()
}

func TestRandomTexts(t *testing.T) {
	r := rand.New(rand.NewSource(11))
	ends := map[api.Errno]int{}
	for i := range 20000 {
		text := randomText(r, []int{0, 300, 30}[i%3])
		checkText(t, text)
		_, d := Parse(text)
		ends[d.E]++
	}
	for _, e := range []api.Errno{api.OK, api.ErrLong, api.ErrToken, api.ErrDeep} {
		if ends[e] < 50 {
			t.Errorf("%d: %d texts", e, ends[e])
		}
	}
}

// Chains of operations in parentheses, of about the greatest height.
func TestRandomHighExpressions(t *testing.T) {
	r := rand.New(rand.NewSource(12))
	ends := map[api.Errno]int{}
	for range 20000 {
		text := "a"
		for range 6 + r.Intn(12) {
			operator := []string{"+", "-", "&"}[r.Intn(3)]
			switch r.Intn(5) {
			case 0:
				text = "(" + text + ")" + operator + "a"
			case 1:
				text = "a.b" + operator + "(" + text + ")"
			case 2:
				text = "a" + operator + text
			case 3:
				text = "(" + text + operator + "a)"
			default:
				text = text + operator + "b"
			}
		}
		if r.Intn(4) == 0 {
			at := r.Intn(len(text))
			text = text[:at] + []string{"$", ")", "(", "+", " c "}[r.Intn(5)] + text[at:]
		}
		checkText(t, ahead+text)
		_, d := Parse(ahead + text)
		ends[d.E]++
	}
	for _, e := range []api.Errno{api.OK, api.ErrToken, api.ErrDeep} {
		if ends[e] < 50 {
			t.Errorf("%d: %d texts", e, ends[e])
		}
	}
}

// R3: what is answered has none of the text's memory, and no list of it another one's.

func within(part, s string) bool {
	from := uintptr(unsafe.Pointer(unsafe.StringData(s)))
	at := uintptr(unsafe.Pointer(unsafe.StringData(part)))
	return part != "" && at >= from && at < from+uintptr(len(s))
}

// textsOf returns all texts of e.
func textsOf(e api.Expr) []string {
	texts := []string{e.Name, e.Over}
	for _, kid := range e.Kids {
		texts = append(texts, textsOf(kid)...)
	}
	return texts
}

func TestSchemasAreNewMemory(t *testing.T) {
	s, _ := Parse(sample)
	var texts []string
	for _, typ := range s.Types {
		texts = append(texts, typ.Name)
		for _, r := range typ.Rels {
			texts = append(texts, r.Name)
			for _, ref := range r.Refs {
				texts = append(texts, ref.Type, ref.Rel)
			}
			texts = append(texts, textsOf(r.Expr)...)
		}
	}
	for _, text := range texts {
		if within(text, sample) {
			t.Errorf("%q shares the text's memory", text)
		}
	}
	if !slices.Contains(texts, "parent") || !slices.Contains(texts, "member") {
		t.Error(texts)
	}
}

// kidsOf returns all lists of kids in e, from e's own on.
func kidsOf(e api.Expr) [][]api.Expr {
	if len(e.Kids) == 0 {
		return nil
	}
	lists := [][]api.Expr{e.Kids}
	for _, kid := range e.Kids {
		lists = append(lists, kidsOf(kid)...)
	}
	return lists
}

func TestListsShareNothing(t *testing.T) {
	text := "type a relation b: c | d | e define f: (g + h) & (i - j) - k & l & m relation n: o | p type q relation r: s define t: u + v + w"
	want, d := Parse(text)
	if d != (api.Diag{}) {
		t.Fatal(d)
	}
	// What is written behind the end of a list is in no other one.
	s, _ := Parse(text)
	_ = append(s.Types, api.Type{Name: "x"}, api.Type{Name: "x"})
	for _, typ := range s.Types {
		_ = append(typ.Rels, api.Rel{Name: "x"}, api.Rel{Name: "x"})
		for _, r := range typ.Rels {
			_ = append(r.Refs, api.Ref{Type: "x"}, api.Ref{Type: "x"})
			for _, kids := range kidsOf(r.Expr) {
				_ = append(kids, rel("x"), rel("x"), rel("x"))
			}
		}
	}
	if !same(s, want) {
		t.Errorf("a list runs into another one: %v", s)
	}
	again, _ := Parse(text)
	clear(s.Types[0].Rels[0].Refs)
	clear(s.Types[0].Rels[1].Expr.Kids)
	clear(s.Types[1].Rels)
	if !same(again, want) {
		t.Error("two answers share memory")
	}
}

// Fuzz: any bytes as a text, and as an expression.
func FuzzParse(f *testing.F) {
	f.Add(sample)
	f.Add("type a relation")
	f.Add(ahead + chain(12, "+-&"))
	f.Add(around(13))
	f.Add("\xff\x00é\r")
	f.Fuzz(func(t *testing.T, text string) {
		checkText(t, text)
		checkText(t, ahead+text)
		checkText(t, ahead+chain(11, "+")+"-"+text)
		checkText(t, ahead+strings.Repeat("(", 11)+text)
	})
}
