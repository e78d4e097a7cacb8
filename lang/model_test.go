package lang

import (
	"regexp"
	"slices"
	"strings"

	"concierge/api"
)

// The calls as the chapter lists them: another signature does not compile.
var (
	_ func(text string) (api.Schema, api.Diag) = Parse
	_ func(s api.Schema) string                = Print
	_ func(e api.Expr) string                  = Expr
	_ func(s api.Schema) bool                  = May
	_ func(e api.Expr) int                     = Height
)

func rel(name string) api.Expr { return api.Expr{Kind: api.ERel, Name: name} }

func arrow(name, over string) api.Expr { return api.Expr{Kind: api.EArrow, Name: name, Over: over} }

func or(a, b api.Expr) api.Expr  { return api.Expr{Kind: api.EOr, Kids: []api.Expr{a, b}} }
func and(a, b api.Expr) api.Expr { return api.Expr{Kind: api.EAnd, Kids: []api.Expr{a, b}} }
func not(a, b api.Expr) api.Expr { return api.Expr{Kind: api.ENot, Kids: []api.Expr{a, b}} }

func direct(name string, refs ...api.Ref) api.Rel { return api.Rel{Name: name, Refs: refs} }

func defined(name string, e api.Expr) api.Rel { return api.Rel{Name: name, Expr: e} }

func sameExpr(a, b api.Expr) bool {
	return a.Kind == b.Kind && a.Name == b.Name && a.Over == b.Over && slices.EqualFunc(a.Kids, b.Kids, sameExpr)
}

func sameRel(a, b api.Rel) bool {
	return a.Name == b.Name && slices.Equal(a.Refs, b.Refs) && sameExpr(a.Expr, b.Expr)
}

func sameType(a, b api.Type) bool {
	return a.Name == b.Name && slices.EqualFunc(a.Rels, b.Rels, sameRel)
}

func same(a, b api.Schema) bool { return slices.EqualFunc(a.Types, b.Types, sameType) }

// The model reads a text with a table of states and two stacks, where the package descends.

var (
	modelWord = regexp.MustCompile(`\A[a-z][a-z0-9_]*`)
	modelGap  = regexp.MustCompile(`\A[ \t\n]*`)
	nameForm  = regexp.MustCompile(`\A[a-z][a-z0-9_]{0,15}\z`)
)

func modelName(s string) bool {
	return nameForm.MatchString(s) && s != "type" && s != "relation" && s != "define"
}

// next returns where the first token of text from at on is, where it ends and of which class it is: a sign or a reserved word (as it stands), NAME, END or OTHER.
func next(text string, at int) (from, to int, class string) {
	from = at + len(modelGap.FindString(text[at:]))
	if from == len(text) {
		return from, from, "END"
	}
	word := modelWord.FindString(text[from:])
	switch {
	case modelName(word):
		return from, from + len(word), "NAME"
	case word == "type" || word == "relation" || word == "define":
		return from, from + len(word), word
	case word == "" && strings.Contains(":|#+-&.()", text[from:from+1]):
		return from, from + 1, text[from : from+1]
	}
	return from, from, "OTHER"
}

// behindRel is what can follow where a type's relations may begin or have ended.
func behindRel(more map[string]string) map[string]string {
	m := map[string]string{"type": "typeName", "relation": "relName", "define": "defName", "END": "done"}
	for class, state := range more {
		m[class] = state
	}
	return m
}

// states says, for each state, which classes can follow and to which state they lead. Those of a ( and a ) depend on what is open, too.
var states = map[string]map[string]string{
	"start":        {"type": "typeName", "END": "done"},
	"typeName":     {"NAME": "inType"},
	"inType":       behindRel(nil),
	"relName":      {"NAME": "relColon"},
	"relColon":     {":": "ref"},
	"ref":          {"NAME": "behindRef"},
	"behindRef":    behindRel(map[string]string{"#": "refRel", "|": "ref"}),
	"refRel":       {"NAME": "behindRefRel"},
	"behindRefRel": behindRel(map[string]string{"|": "ref"}),
	"defName":      {"NAME": "defColon"},
	"defColon":     {":": "atom"},
	"atom":         {"NAME": "behindName", "(": "atom"},
	"behindName":   behindRel(map[string]string{".": "over", "+": "atom", "-": "atom", "&": "atom", ")": "behindAtom"}),
	"over":         {"NAME": "behindAtom"},
	"behindAtom":   behindRel(map[string]string{"+": "atom", "-": "atom", "&": "atom", ")": "behindAtom"}),
}

type sign struct {
	class string
	at    int
}

// modelParser keeps operands and the operators and ( between them on two stacks.
type modelParser struct {
	s        api.Schema
	operands []api.Expr
	signs    []sign
	open     int
}

func (m *modelParser) lastRel() *api.Rel {
	rels := m.s.Types[len(m.s.Types)-1].Rels
	return &rels[len(rels)-1]
}

func (m *modelParser) lastRef() *api.Ref {
	refs := m.lastRel().Refs
	return &refs[len(refs)-1]
}

// reduce makes operations of the operators of some classes on top, and returns the first one that is too high.
func (m *modelParser) reduce(classes string) (at int, tooHigh bool) {
	for len(m.signs) > 0 {
		top := m.signs[len(m.signs)-1]
		if !strings.Contains(classes, top.class) {
			break
		}
		m.signs = m.signs[:len(m.signs)-1]
		k := len(m.operands) - 2
		kind := map[string]int{"+": api.EOr, "&": api.EAnd, "-": api.ENot}[top.class]
		e := api.Expr{Kind: kind, Kids: []api.Expr{m.operands[k], m.operands[k+1]}}
		m.operands = append(m.operands[:k], e)
		if modelHeight(e) > 12 {
			return top.at, true
		}
	}
	return 0, false
}

// step takes a token that can follow.
func (m *modelParser) step(state, class, token string, at int) {
	switch {
	case state == "typeName":
		m.s.Types = append(m.s.Types, api.Type{Name: token})
	case state == "relName" || state == "defName":
		last := &m.s.Types[len(m.s.Types)-1]
		last.Rels = append(last.Rels, api.Rel{Name: token})
	case state == "ref":
		m.lastRel().Refs = append(m.lastRel().Refs, api.Ref{Type: token})
	case state == "refRel":
		m.lastRef().Rel = token
	case state == "atom" && class == "NAME":
		m.operands = append(m.operands, rel(token))
	case state == "over":
		top := &m.operands[len(m.operands)-1]
		top.Kind, top.Over = api.EArrow, token
	case class == "(":
		m.open++
		m.signs = append(m.signs, sign{class, at})
	case class == ")":
		m.open--
		m.signs = m.signs[:len(m.signs)-1]
	case strings.Contains("+-&", class):
		m.signs = append(m.signs, sign{class, at})
	}
}

// behindOperand finishes the operations whose last operand ends ahead of a token.
func (m *modelParser) behindOperand(class string) (at int, tooHigh bool) {
	if class == "&" {
		return m.reduce("&")
	}
	if at, tooHigh := m.reduce("+-&"); tooHigh || strings.Contains("+-)", class) {
		return at, tooHigh
	}
	if m.open == 0 {
		m.lastRel().Expr = m.operands[0]
		m.operands = nil
	}
	return 0, false
}

func modelHeight(e api.Expr) int {
	heights := []int{0}
	for _, kid := range e.Kids {
		heights = append(heights, modelHeight(kid))
	}
	return 1 + slices.Max(heights)
}

func modelDiag(text string, at int, e api.Errno) api.Diag {
	lines := strings.Split(text[:at], "\n")
	return api.Diag{Line: len(lines), Col: 1 + len(lines[len(lines)-1]), E: e}
}

// modelParse is Parse by the words of the chapter.
func modelParse(text string) (api.Schema, api.Diag) {
	if len(text) > 4096 {
		return api.Schema{}, api.Diag{Line: 1, Col: 1, E: api.ErrLong}
	}
	var m modelParser
	state, at := "start", 0
	for state != "done" {
		from, to, class := next(text, at)
		if state == "behindName" && class != "." || state == "behindAtom" {
			if sign, tooHigh := m.behindOperand(class); tooHigh {
				return api.Schema{}, modelDiag(text, sign, api.ErrDeep)
			}
		}
		then, can := states[state][class]
		if class == ")" && m.open == 0 || strings.Contains("type relation define END", class) && m.open > 0 {
			can = false
		}
		if !can {
			return api.Schema{}, modelDiag(text, from, api.ErrToken)
		}
		if class == "(" && m.open == 12 {
			return api.Schema{}, modelDiag(text, from, api.ErrDeep)
		}
		m.step(state, class, text[from:to], from)
		state, at = then, to
	}
	return m.s, api.Diag{}
}

// modelExpr is the text of an expression by the words of the chapter, and whether it has one, whatever its height is.
func modelExpr(e api.Expr) (string, bool) {
	if e.Kind == api.ERel {
		return e.Name, modelName(e.Name) && len(e.Kids) == 0
	}
	if e.Kind == api.EArrow {
		return e.Name + "." + e.Over, modelName(e.Name) && modelName(e.Over) && len(e.Kids) == 0
	}
	operator, isOperation := map[int]string{api.EOr: "+", api.EAnd: "&", api.ENot: "-"}[e.Kind]
	if !isOperation || len(e.Kids) != 2 {
		return "", false
	}
	a, mayA := modelExpr(e.Kids[0])
	b, mayB := modelExpr(e.Kids[1])
	return strings.Join([]string{"(" + a, operator, b + ")"}, " "), mayA && mayB
}

// modelPrint is Print and May by the words of the chapter.
func modelPrint(s api.Schema) (string, bool) {
	text, may := "", true
	for _, t := range s.Types {
		text += "type " + t.Name + "\n"
		may = may && modelName(t.Name)
		for _, r := range t.Rels {
			may = may && modelName(r.Name)
			if len(r.Refs) == 0 {
				e, mayE := modelExpr(r.Expr)
				text += "  define " + r.Name + ": " + e + "\n"
				may = may && mayE && modelHeight(r.Expr) <= 12
				continue
			}
			between := "  relation " + r.Name + ": "
			for _, ref := range r.Refs {
				text += between + ref.Type
				if ref.Rel != "" {
					text += "#" + ref.Rel
				}
				may = may && modelName(ref.Type) && (ref.Rel == "" || modelName(ref.Rel))
				between = " | "
			}
			text += "\n"
		}
	}
	if !may {
		return "", false
	}
	return text, true
}

// told is what a text tells of a schema: without the Exprs of relations with Refs, the Overs of ERels, and the Names and Overs of operations.
func told(s api.Schema) api.Schema {
	out := api.Schema{Types: slices.Clone(s.Types)}
	for i := range out.Types {
		rels := slices.Clone(out.Types[i].Rels)
		for k := range rels {
			if len(rels[k].Refs) > 0 {
				rels[k].Expr = api.Expr{}
			} else {
				rels[k].Expr = toldExpr(rels[k].Expr)
			}
		}
		out.Types[i].Rels = rels
	}
	return out
}

func toldExpr(e api.Expr) api.Expr {
	switch e.Kind {
	case api.ERel:
		return rel(e.Name)
	case api.EArrow:
		return arrow(e.Name, e.Over)
	}
	kids := slices.Clone(e.Kids)
	for i := range kids {
		kids[i] = toldExpr(kids[i])
	}
	return api.Expr{Kind: e.Kind, Kids: kids}
}

// copyOf returns a schema that shares no list with s.
func copyOf(s api.Schema) api.Schema {
	out := api.Schema{Types: slices.Clone(s.Types)}
	for i := range out.Types {
		rels := slices.Clone(out.Types[i].Rels)
		for k := range rels {
			rels[k].Refs = slices.Clone(rels[k].Refs)
			rels[k].Expr = copyOfExpr(rels[k].Expr)
		}
		out.Types[i].Rels = rels
	}
	return out
}

func copyOfExpr(e api.Expr) api.Expr {
	e.Kids = slices.Clone(e.Kids)
	for i := range e.Kids {
		e.Kids[i] = copyOfExpr(e.Kids[i])
	}
	return e
}
