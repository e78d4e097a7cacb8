package lang

import "strings"

// tokenizer goes through a text token by token. A byte that begins no token stands as one of its own, and the end of the text as an empty one: the grammar has no place for the first, and one for the second.
type tokenizer struct {
	text     string
	from, to int // where the current token begins, and where it ends
}

// end is what the end of the text stands as.
const end = ""

// token returns the current token as a piece of the text.
func (t *tokenizer) token() string {
	return t.text[t.from:t.to]
}

// next goes on to the next token.
func (t *tokenizer) next() {
	t.from = t.behind(t.to, isBlank)
	switch {
	case t.from == len(t.text):
		t.to = t.from
	case isLower(t.text[t.from]):
		t.to = t.behind(t.from, inWord)
	default:
		t.to = t.from + 1
	}
}

// behind returns where the bytes of a class end that stand from at on.
func (t *tokenizer) behind(at int, class func(c byte) bool) int {
	for at < len(t.text) && class(t.text[at]) {
		at++
	}
	return at
}

// position returns the line and the column of the byte at an index.
func (t *tokenizer) position(at int) (line, col int) {
	ahead := t.text[:at]
	return strings.Count(ahead, "\n") + 1, at - strings.LastIndex(ahead, "\n")
}

func isBlank(c byte) bool { return c == ' ' || c == '\t' || c == '\n' }

func isLower(c byte) bool { return c >= 'a' && c <= 'z' }

func inWord(c byte) bool { return isLower(c) || c >= '0' && c <= '9' || c == '_' }
