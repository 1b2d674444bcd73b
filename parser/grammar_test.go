package parser_test

import (
	"slices"
	"strings"

	"hemiola/api"
	"hemiola/duration"
	"hemiola/lexer"
	"hemiola/metre"
	"hemiola/pitch"
)

// grammar is that of the chapter; NUMBER and WORD have names that tell what may stand there.
const grammar = `
text    = "score" STRING [ "written" ] [ "last" id { id } ] { part } { measure } { spanner }
id      = "@" SITE "." SERIAL
part    = "part" [ id ] STRING [ "transpose" [ "-" ] STEPS [ "-" ] STEPS ] { staff }
staff   = "staff" [ id ] CLEF
measure = "measure" [ id ] options "{" cell { "/" cell } "}"
options = [ "metre" METRE ] [ "length" LENGTH ] [ "key" [ "-" ] FIFTHS ] [ "repeat" ]
          [ "times" TIMES ] [ "endings" ENDINGS ] [ "jump" JUMP ]
          [ "segno" ] [ "coda" ] [ "fine" ] [ "tocoda" ]
          [ "swing" SWING ] [ "break" BREAK ] [ "mark" STRING ]
          { "tempo" TICK MICROS [ "ramp" ] }
cell    = { "clef" TICK CLEF } [ voice { ";" voice } ]
voice   = { item }
item    = event | tuplet
tuplet  = "(" RATIO ":" RATIO item { item } ")"
event   = [ id ] [ "grace" "(" grace { grace } ")" ] body [ "[" SIGN { SIGN } "]" ] { syllable }
body    = head ":" VALUE | "<" head { head } ">" ":" VALUE | "r" ":" VALUE | "R" | "s" ":" VALUE
head    = PITCH [ "~" ] [ "!" | "?" ]
grace   = [ "/" ] PITCH ":" POWER
syllable = STRING [ LINK ] | "_"
spanner = KIND [ id ] "(" id id ")"
`

// limits are those of the numbers in the grammar.
var limits = map[string][2]int{
	"SITE": {0, 99}, "SERIAL": {1, 1 << 30}, "STEPS": {0, 140}, "LENGTH": {1, 1 << 42}, "FIFTHS": {0, 7}, "TIMES": {2, 8}, "ENDINGS": {1, 255},
	"SWING": {1, 100}, "TICK": {0, 1 << 42}, "MICROS": {1, 60000000}, "RATIO": {1, 32}, "POWER": {2, 64},
}

// choices are the words that are possible in the grammar.
var choices = map[string][]string{
	"CLEF":  {"treble", "bass", "alto", "tenor", "soprano", "mezzosoprano", "baritone", "treble8", "bass8"},
	"JUMP":  {"dacapo", "dacapofine", "dacapocoda", "dalsegno", "dalsegnofine", "dalsegnocoda"},
	"BREAK": {"system", "page", "never"},
	"SIGN":  slices.Concat(signs[0], signs[1], signs[2], signs[3], signs[4]),
	"KIND":  {"slur", "crescendo", "diminuendo", "octaveup", "octavedown", "pedal", "trill"},
}

// signs are the groups of the words in brackets.
var signs = [5][]string{
	{"staccato", "tenuto", "accent", "marcato", "fermata"}, {"trill", "mordent", "inverse", "turn"},
	{"ppp", "pp", "p", "mp", "mf", "f", "ff", "fff", "sfz"}, {"up", "down"}, {"apart", "join"},
}

// node is a part of the grammar: a literal, a terminal or the name of a rule, a sequence (;), an alternative (|), an option ([) or a repetition ({).
type node struct {
	kind  byte
	name  string
	parts []*node
}

// frame is a part of the grammar that is to be read, and what follows it. The frames of a machine are different.
type frame struct {
	node *node
	next *frame
}

// machine reads tokens by the rules of the grammar. It looks at all ways in which the text can go on.
type machine struct {
	rules  map[string]*node
	frames map[frame]*frame
	leaves map[*frame]bool
}

func newMachine() *machine {
	m := &machine{rules: map[string]*node{}, frames: map[frame]*frame{}}
	words := strings.Fields(grammar)
	for len(words) > 0 {
		name := words[0]
		end := slices.Index(words[2:], "=") + 1
		if end == 0 {
			end = len(words)
		}
		rule := words[2:end]
		m.rules[name], _ = alternatives(rule)
		words = words[end:]
	}
	return m
}

// alternatives reads alternatives up to a closing bracket, and returns what is behind them.
func alternatives(words []string) (*node, []string) {
	all, one := &node{kind: '|'}, &node{kind: ';'}
	for len(words) > 0 {
		word := words[0]
		words = words[1:]
		switch {
		case word == "]" || word == "}":
			all.parts = append(all.parts, one)
			return all, words
		case word == "|":
			all.parts = append(all.parts, one)
			one = &node{kind: ';'}
		case word == "[" || word == "{":
			var inner *node
			inner, words = alternatives(words)
			one.parts = append(one.parts, &node{kind: word[0], parts: []*node{inner}})
		case word[0] == '"':
			one.parts = append(one.parts, &node{kind: '"', name: strings.Trim(word, `"`)})
		case word[0] <= 'Z':
			one.parts = append(one.parts, &node{kind: 'T', name: word})
		default:
			one.parts = append(one.parts, &node{kind: 'r', name: word})
		}
	}
	all.parts = append(all.parts, one)
	return all, nil
}

// before returns the frame of a node with what follows it.
func (m *machine) before(n *node, next *frame) *frame {
	f := frame{n, next}
	if m.frames[f] == nil {
		m.frames[f] = &f
	}
	return m.frames[f]
}

// expand finds the literals and terminals with which a frame can begin; nil stands for the end of the text.
func (m *machine) expand(f *frame) {
	if f == nil {
		m.leaves[nil] = true
		return
	}
	switch f.node.kind {
	case '"', 'T':
		m.leaves[f] = true
	case ';':
		next := f.next
		for _, part := range slices.Backward(f.node.parts) {
			next = m.before(part, next)
		}
		m.expand(next)
	case '|':
		for _, part := range f.node.parts {
			m.expand(m.before(part, f.next))
		}
	case '[':
		m.expand(f.next)
		m.expand(m.before(f.node.parts[0], f.next))
	case '{':
		m.expand(f.next)
		m.expand(m.before(f.node.parts[0], f))
	case 'r':
		m.expand(m.before(m.rules[f.node.name], f.next))
	}
}

// check returns the first error of tokens, which end with End, by the rule with a name.
func (m *machine) check(rule string, l []lexer.Token) (line, column int, e api.Errno) {
	ways := map[*frame]bool{m.before(m.rules[rule], nil): true}
	for i := 0; ; {
		m.leaves = map[*frame]bool{}
		for f := range ways {
			m.expand(f)
		}
		if m.leaves[nil] && l[i].Kind == lexer.End {
			return 0, 0, api.OK
		}
		delete(m.leaves, nil)
		ways = map[*frame]bool{}
		taken := 0
		for f := range m.leaves {
			n, e := fits(f.node, l, i)
			if e != api.OK {
				return l[i].Line, l[i].Column, e
			}
			if n > 0 {
				taken = n
				ways[f.next] = true
			}
		}
		if taken == 0 {
			return l[i].Line, l[i].Column, api.ErrSyntax
		}
		i += taken
	}
}

// fits returns how many tokens from one on a literal or a terminal consists of, and their error.
func fits(n *node, l []lexer.Token, i int) (taken int, e api.Errno) {
	t := l[i]
	isNumber, isWord := t.Kind == lexer.Number, t.Kind == lexer.Word
	switch {
	case n.kind == '"':
		return one((isWord || t.Kind == lexer.Symbol) && t.Text == n.name), api.OK
	case n.name == "STRING":
		return one(t.Kind == lexer.String), api.OK
	case n.name == "LINK":
		return one(t.Joined && (t.Text == "-" || t.Text == "_")), api.OK
	case n.name == "KIND":
		return one(isWord && slices.Contains(choices["KIND"], t.Text)), api.OK
	case n.name == "SIGN":
		return one(isWord), wrongSign(isWord, l, i)
	case n.name == "PITCH" && isWord && strings.Contains("ABCDEFG", t.Text[:1]):
		text, taken := composed(l[i:], "0123456789#-")
		_, _, wrong := pitch.Parse(text)
		return taken, only(wrong, api.ErrPitch)
	case n.name == "VALUE" && (isNumber || isWord && t.Text == "b"):
		text, taken := composed(l[i:], ".")
		_, wrong := duration.Parse(text)
		return taken, only(wrong, api.ErrValue)
	case n.name == "METRE" && isNumber:
		text, taken := composed(l[i:], "0123456789+/")
		_, wrong := metre.Parse(text)
		return taken, only(wrong, api.ErrMetre)
	case choices[n.name] != nil && isWord && !slices.Contains(choices[n.name], t.Text):
		return 1, api.ErrUnknown
	case choices[n.name] != nil:
		return one(isWord), api.OK
	case limits[n.name] != [2]int{} && isNumber:
		lowest, highest := limits[n.name][0], limits[n.name][1]
		if t.Value < lowest || t.Value > highest || n.name == "POWER" && !slices.Contains([]int{2, 4, 8, 16, 32, 64}, t.Value) {
			return 1, api.ErrRange
		}
		return 1, api.OK
	}
	return 0, api.OK
}

func one(is bool) int {
	if is {
		return 1
	}
	return 0
}

// only returns one error in place of any other.
func only(e, instead api.Errno) api.Errno {
	if e == api.OK {
		return api.OK
	}
	return instead
}

// composed returns the text of a token with all joined ones behind it that consist of some bytes, and their number.
func composed(l []lexer.Token, bytes string) (text string, taken int) {
	text = l[0].Text
	for taken = 1; l[taken].Joined && strings.Trim(l[taken].Text, bytes) == ""; taken++ {
		text += l[taken].Text
	}
	return text, taken
}

// wrongSign returns the error of a word in brackets, which depends on those before it.
func wrongSign(isWord bool, l []lexer.Token, i int) api.Errno {
	place := slices.Index(choices["SIGN"], l[i].Text)
	switch {
	case !isWord:
		return api.OK
	case place < 0:
		return api.ErrUnknown
	}
	for k := i - 1; l[k].Text != "["; k-- {
		earlier := slices.Index(choices["SIGN"], l[k].Text)
		if earlier >= place || groupOf(l[k].Text) == groupOf(l[i].Text) && groupOf(l[i].Text) > 0 {
			return api.ErrSyntax
		}
	}
	return api.OK
}

func groupOf(sign string) int {
	return slices.IndexFunc(signs[:], func(group []string) bool { return slices.Contains(group, sign) })
}
