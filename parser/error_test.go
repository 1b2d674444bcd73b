package parser_test

import (
	"slices"
	"strconv"
	"strings"
	"testing"

	"hemiola/api"
	"hemiola/lexer"
	"hemiola/parser"
	"hemiola/sample"
)

// fails shows that a text has an error at the token behind an arrow (→) in it, and that Read and Parse return nothing else. Without an arrow, Read finds no error.
func fails(t *testing.T, marked string, want api.Errno) {
	t.Helper()
	front, back, wrong := strings.Cut(marked, "→")
	s, wantLine, wantColumn := front+back, 0, 0
	if wrong {
		wantLine, wantColumn = endOf(s[:len(s)-len(strings.TrimLeft(back, " \n"))])
	} else {
		want = api.OK
	}
	got, line, column, e := parser.Read(s)
	if line != wantLine || column != wantColumn || e != want || wrong && text(got) != text(api.Score{}) {
		t.Errorf("Read(%.200q) = %+v, %d, %d, error %d; want the error %d at %d, %d", s, got, line, column, e, want, wantLine, wantColumn)
	}
	if !wrong {
		return
	}
	got, line, column, e = parser.Parse(s)
	if line != wantLine || column != wantColumn || e != want || text(got) != text(api.Score{}) {
		t.Errorf("Parse(%.200q) = %+v, %d, %d, error %d; want the error %d at %d, %d", s, got, line, column, e, want, wantLine, wantColumn)
	}
}

// within fails with a part of a text at its place: options of a measure (o), what a cell (c) contains, or an event (e) in it; else the text is the rest of one that begins a score.
func within(t *testing.T, where byte, marked string, want api.Errno) {
	t.Helper()
	switch where {
	case 'o':
		fails(t, "score \"\"\nmeasure "+marked+" {}", want)
	case 'c':
		fails(t, "score \"\" measure {\n"+marked+" }", want)
	case 'e':
		fails(t, "score \"\" measure { r:4 (3:2 "+marked+") }", want)
	default:
		fails(t, "score \"\" "+marked, want)
	}
}

func TestP19_1LexerErrors(t *testing.T) {
	fails(t, "score 5 →`", api.ErrByte)
	fails(t, "score →\"a", api.ErrShort)
	fails(t, "score \"a→\x00\"", api.ErrByte)
	fails(t, "score \"\" →"+strings.Repeat("a", 65), api.ErrLong)
	fails(t, "5 \n  →"+strings.Repeat("1", 16), api.ErrLong)
	fails(t, "→x"+strings.Repeat(" ", lexer.MaxSource), api.ErrLong)
	fails(t, strings.Repeat(".", lexer.MaxTokens)+"→.", api.ErrLimit)
	for _, e := range []api.Errno{errorOf(parser.Event("r:4 `")), errorOf(parser.Voice("r:4 `"))} {
		if e != api.ErrByte {
			t.Errorf("the error of a text with a wrong byte is %d", e)
		}
	}
}

func errorOf[T any](_ T, _, _ int, e api.Errno) api.Errno { return e }

func TestP19_1SyntaxErrors(t *testing.T) {
	for _, s := range []string{"→", "→5", "→\"score\"", "→Score \"\"", "score →", "score →5", "score \"\"\n→x", "score \"\" →last2", "score \"\" →)", "score \"\" →score"} {
		fails(t, s, api.ErrSyntax)
	}
	for _, c := range []struct {
		where byte
		texts []string
	}{
		{'s', []string{
			"last→", "last →part", "last @→", "last @→-", "last @→.1", "last @1→", "last @1→ 2", "last @1.→", "last @1.2 →3", "last @1.→a", "written →written", "last @1.2 →written",
			"part→", "part →staff", "part @1→", "part @1.2 →", "part →5", `part "" →"a"`, `part "" transpose→`, `part "" transpose 1→`, `part "" transpose -→`, `part "" transpose - →- 1 1`, `part "" transpose 1 2 →3`, `part "" transpose 1 →a`,
			`part "" staff→`, `part "" staff →5`, `part "" staff →"treble"`, `part "" staff @1.2→`, `part "" staff treble →treble`, `part "" staff treble →@1.2`, `part "" →@1.2`,
			"measure→", "measure →}", "measure @1.2→", "measure {→", "measure {} →}", "measure {} →/", "measure {} →{", "measure {}→5", `measure {} →part ""`, "measure {/→",
			"→trills (@1.2 @1.2)", "→Slur (@1.2 @1.2)", "→r", "slur→", "slur @→", "slur @1.2→", "slur @1.2 →@1.2", "slur (→", "slur (→)", "slur (@1.2→", "slur (@1.2→)", "slur (@1.2 @1.2→", "slur (@1.2 @1.2 →@1.2)", "slur (@1.2 @1.2) →measure {}", `slur (@1.2 @1.2) →part ""`,
		}},
		{'o', []string{
			"metre→", "metre →a", "metre →/4", `metre →"3/4"`, "length→", "length →-1", "key→", "key -→", "key - →- 1", "key →+1", "repeat →2", "repeat →repeat", "times→", "endings→", "jump→", "jump →1", `jump →"dacapo"`, "swing→", "break→", "break →2", "mark→", "mark →A",
			"tempo→", "tempo 1→", "tempo 1 →-1", "tempo 1 →ramp", "tempo 1 1 ramp →ramp", "tempo 1 1 →1",
			"key 1 →metre 3/4", "length 1 →metre 3/4", "key 1 →length 1", "repeat →key 1", "times 2 →repeat", "endings 1 →times 2", "jump dacapo →endings 1", "segno →jump dacapo", "coda →segno", "fine →coda", "tocoda →fine", "swing 1 →tocoda", "break page →swing 1", `mark "" →break page`, `tempo 0 1 →mark ""`, "segno →segno", "metre 3/4 →metre 3/4", "→[", "→clef 0 bass", "→Metre 3/4",
		}},
		{'c', []string{
			"clef→", "clef →bass 0", "clef 1→", "clef 1 →2", "r:4 →clef 0 bass", "; →clef 0 bass", "→:", "→x", "→c4:4", "→H4:4", "→4", "→b:4", `→"la"`, "→_", "→-", "→)", "→]", "→[up]", "→~", "→>", "→measure",
			"(→", "(3→", "(3→/2 r:4)", "(3:→", "(3:2→", "(→)", "(3:2 →)", "(3:2 r:4 (3:2 →) )", "(3:2 r:4 →;)", "(3:2 r:4 →/)", "(3:2 r:4→", "(3:2 →clef 0 bass", "(3:2→.r:4)", "(→-3:2 r:4)", "r:4 →)", "(3:2 r:4)→)", "@1.2 →(3:2 r:4)", "@1.2→", "@1.2 →@1.2 r:4", "@1.2 →;", "r:4; →: r:4", `r:4 "a" →[up]`, "r:4 [up] →[join]",
		}},
		{'e', []string{
			"r→", "r →4", "r:→", "r:→.", "r:→r", "r:→b4", "r:4 →.", "→r4:4", "R→:4", "R→.", "s→", "s:→", "→rr:4", "→S:4",
			"C4→", "C4 →4", "C4:→", "C4:→/", "C4~→~:4", "C4!→~:4", "C4!→!:4", "C4?→!:4", "C4:4→~", "C4: 4→:", "C4 →[up]:4",
			"<→", "<→>", "<→r>:4", "<C4→", "<C4 →<", "<C4→:4>", "<C4>→", "<C4> →4", "<C4>→~:4", "<C4>:→", "<C4→/", "<C4~!→?>:4",
			"grace→", "grace →C4:8 R", "grace (→", "grace (→)", "grace (/→", "grace (/→/C4:8) R", "grace (→r:8) R", "grace (C4→", "grace (C4→)", "grace (C4→~:8) R", "grace (C4:→", "grace (C4:→b) R", "grace (C4:8 →x", "grace (C4:8→.) R", "grace (C4:8)→", "grace (C4:8) →grace (C4:8) R", "grace (C4:8) →@1.2 R", "grace (C4:8) →)",
			"R [→", "R [→]", "R [→5]", `R [→"up"]`, "R [up→", "R [up →5]", "R [up →[]", "R [→~]",
			`R "a" →-`, `R "a"-→-`, `R "a"_→-`, "R →-", `R "a"→.`, `R →5`, "R _ →-",
		}},
	} {
		for _, s := range c.texts {
			if !strings.Contains(s, "→") {
				t.Fatalf("the text %q has no mark", s)
			}
			within(t, c.where, s, api.ErrSyntax)
		}
	}
}

func TestP19_1Unknown(t *testing.T) {
	fails(t, `score "" part "" staff →x`, api.ErrUnknown)
	fails(t, `score "" part "" staff →Treble`, api.ErrUnknown)
	fails(t, `score "" part "" staff @1.2 →staff`, api.ErrUnknown)
	for _, s := range []string{"jump →segno", "jump →system", "jump →dacapo_", "break →dacapo", "break →Page", "break →r"} {
		within(t, 'o', s, api.ErrUnknown)
	}
	for _, s := range []string{"clef 0 →treble9", "clef 0 →r", "clef 0 →C4"} {
		within(t, 'c', s, api.ErrUnknown)
	}
	for _, s := range []string{"R [→x]", "R [→measure]", "R [→r]", "R [→slur]", "R [→C4]", "R [up →x]", "R [→Up]", "R [join →treble]"} {
		within(t, 'e', s, api.ErrUnknown)
	}
}

// TestP19_1Signs shows that all pairs of words in brackets but those that are in order are ErrSyntax, also with another word between them.
func TestP19_1Signs(t *testing.T) {
	for i, a := range choices["SIGN"] {
		for k, b := range choices["SIGN"] {
			allowed := i < k && (groupOf(a) != groupOf(b) || groupOf(a) == 0)
			s := "R [" + a + " " + b + "]"
			if !allowed {
				s = "R [" + a + " →" + b + "]"
			}
			within(t, 'e', s, api.ErrSyntax)
			if a != "staccato" && b == "staccato" {
				within(t, 'e', "R [tenuto "+strings.TrimPrefix(a+" →", "tenuto ")+b+"]", api.ErrSyntax)
			}
		}
	}
	within(t, 'e', "R [tenuto up join →tenuto]", api.ErrSyntax)
}

func TestP19_1Composed(t *testing.T) {
	for _, s := range []string{"→Foo:4", "→C:4", "→C10:4", "→C#:4", "→Cb#4:4", "→C4#:4", "→C4-:4", "→C###4:4", "→A9:4", "→Cb-1:4", "→C04:4", "→C4-1:4", "<→C4D>:4", "<C4 →D4d>:4", "grace (→G10:8) R", "grace (/ →E:8) R", "→C#4#4 x", "→C-- x"} {
		within(t, 'e', s, api.ErrPitch)
	}
	for _, s := range []string{"r:→3", "r:→04", "r:→4....", "r:→512", "r:→b....", "s:→0", "C4:→1000", "<C4>:→12.", "r:→123456789012345 x", "r:→4......... x"} {
		within(t, 'e', s, api.ErrValue)
	}
	for _, s := range []string{"metre →3", "metre →3/3", "metre →03/4", "metre →65/4", "metre →3/128", "metre →3/4/4", "metre →3//4", "metre →3+/4", "metre →1+1+1+1+1+1+1/4", "metre →3/4+ x", "metre →0/4", "metre →4/4/", "metre →1+0/4"} {
		within(t, 'o', s, api.ErrMetre)
	}
	// What follows a composed token is looked at after it.
	within(t, 'e', "C#4→D4:4", api.ErrSyntax)
	within(t, 'e', "C#4→x:4", api.ErrSyntax)
	within(t, 'e', "r:4→x", api.ErrSyntax)
	within(t, 'o', "metre 3/4→x", api.ErrSyntax)
}

func TestP19_1Ranges(t *testing.T) {
	for _, c := range []struct {
		where     byte
		text      string // with a # for the number
		low, high int
	}{
		{'s', "last @#.1", 0, 99}, {'s', "last @1.1 @1.#", 1, 1 << 30}, {'s', `part @#.1 ""`, 0, 99}, {'s', `part @1.# ""`, 1, 1 << 30},
		{'s', `part "" transpose # 0`, 0, 140}, {'s', `part "" transpose -# 0`, 0, 140}, {'s', `part "" transpose 0 #`, 0, 140}, {'s', `part "" transpose 0 - #`, 0, 140},
		{'s', `part "" staff @#.1 bass`, 0, 99}, {'s', `part "" staff @1.# bass`, 1, 1 << 30}, {'s', "slur @#.1 (@1.1 @1.1)", 0, 99}, {'s', "slur (@#.1 @1.1)", 0, 99}, {'s', "slur (@1.# @1.1)", 1, 1 << 30}, {'s', "slur (@1.1 @#.1)", 0, 99}, {'s', "slur (@1.1 @1.#)", 1, 1 << 30},
		{'o', "@#.1", 0, 99}, {'o', "@1.#", 1, 1 << 30}, {'o', "length #", 1, 1 << 42}, {'o', "key #", 0, 7}, {'o', "key -#", 0, 7}, {'o', "times #", 2, 8}, {'o', "endings #", 1, 255}, {'o', "swing #", 1, 100}, {'o', "tempo # 1", 0, 1 << 42}, {'o', "tempo 1 #", 1, 60000000}, {'o', "tempo 0 1 tempo 1 # ramp", 1, 60000000},
		{'c', "clef # bass", 0, 1 << 42}, {'c', "(#:2 r:4)", 1, 32}, {'c', "(3:# r:4)", 1, 32}, {'c', "(3:2 (3:# r:4))", 1, 32},
		{'e', "@#.1 R", 0, 99}, {'e', "@1.# grace (C4:2) R", 1, 1 << 30},
	} {
		for n, right := range map[int]bool{c.low: true, c.high: true, c.low - 1: false, c.high + 1: false, 999999999999999: false} {
			number := strconv.Itoa(n)
			if !right {
				number = "→" + number
			}
			if n >= 0 {
				within(t, c.where, strings.Replace(c.text, "#", number, 1), api.ErrRange)
			}
		}
	}
	for n := range 200 {
		right := slices.Contains([]int{2, 4, 8, 16, 32, 64}, n)
		for _, s := range []string{"grace (C4:#) R", "grace (/C4:8 C4:#/C4:8) R"} {
			number := strconv.Itoa(n)
			if !right {
				number = "→" + number
			}
			within(t, 'e', strings.Replace(s, "#", number, 1), api.ErrRange)
		}
	}
	within(t, 'e', "grace (C4:→999999999999999) R", api.ErrRange)
	within(t, 'e', "grace (C4:→128 x", api.ErrRange)
}

// TestP19_1Limit lets the numbers of ids end before each kind of object.
func TestP19_1Limit(t *testing.T) {
	const last = "@5.1073741824 "
	for _, c := range []string{
		"part " + last + `"" staff →treble`, "part " + last + `"" staff →5`, "part " + last + `"" staff→`, "part " + last + `"" staff →x`, "part " + last + `"" staff @0.1 treble`,
		"part " + last + `"" part →"a"`, "part " + last + `"" part →staff`, "part " + last + `"" measure →{}`, "part " + last + `"" measure →metre 3/4 {}`, "part " + last + `"" measure →x`, "part " + last + `"" slur →(@1.1 @1.1)`, "part " + last + `"" slur→`, "part " + last + `"" →x`,
		"measure " + last + "{ →r:4 }", "measure " + last + "{ →R }", "measure " + last + "{ →C4:4 }", "measure " + last + "{ →<C4>:4 }", "measure " + last + "{ →grace (C4:4) R }", "measure " + last + "{ (3:2 →s:4", "measure " + last + "{ (3:→0", "measure " + last + "{ ; / } measure →",
		"measure { " + last + "r:4 / →R }", "measure { " + last + "r:4 } measure →{}", "measure { " + last + "r:4 } slur →(", "measure { r:4 @5.1073741823 r:4 r:4 →r:4 r:4 }", "slur " + last + "(@1.1 @1.1) slur →(@1.1 @1.1)", "slur " + last + "(@1.1 @1.1) slur " + last + "(@1.1 @1.1)",
	} {
		e := api.ErrLimit
		switch {
		case strings.HasSuffix(c, `"" →x`):
			e = api.ErrSyntax
		case strings.HasSuffix(c, "(3:→0"):
			e = api.ErrRange
		}
		within(t, 's', c, e)
	}
	// The ids of Last, and the ends of spanners, do not count, and in texts of events there is no next id.
	fails(t, `score "" last @0.1073741824 part "" slur (@0.1073741824 @0.1073741824) slur (@1.1 @1.1)`, api.OK)
	if v, _, _, e := parser.Voice(last + "R R"); e != api.OK || v.Events[1].ID != (api.ID{}) {
		t.Errorf("Voice = %+v, error %d", v, e)
	}
	// A composed token that is wrong comes after the id.
	within(t, 's', "measure "+last+"{ →C:4 }", api.ErrLimit)
}

func TestP19_3Errors(t *testing.T) {
	for marked, want := range map[string]api.Errno{
		"→": api.ErrSyntax, "→x": api.ErrSyntax, "→;": api.ErrSyntax, "→(3:2 r:4)": api.ErrSyntax, "r:4\n →r:4": api.ErrSyntax, "r:4 →}": api.ErrSyntax, "r:4→;": api.ErrSyntax, "@1.2→": api.ErrSyntax, "→C:4": api.ErrPitch, "C4:→5": api.ErrValue, "@→100.1 R": api.ErrRange, "R [→x]": api.ErrUnknown,
	} {
		front, back, _ := strings.Cut(marked, "→")
		wantLine, wantColumn := endOf(front)
		if x, line, column, e := parser.Event(front + back); text(x) != text(api.Event{}) || line != wantLine || column != wantColumn || e != want {
			t.Errorf("Event(%q) = %+v, %d, %d, error %d", front+back, x, line, column, e)
		}
		if front == "" || strings.HasPrefix(front, "r:4\n") {
			continue
		}
		if x, line, column, e := parser.Voice(front + back); text(x) != text(api.Voice{}) || line != wantLine || column != wantColumn || e != want {
			t.Errorf("Voice(%q) = %+v, %d, %d, error %d", front+back, x, line, column, e)
		}
	}
	for marked, want := range map[string]api.Errno{
		"→x": api.ErrSyntax, "→;": api.ErrSyntax, "r:4 →; r:4": api.ErrSyntax, "(3:2 →)": api.ErrSyntax, "(3:2 r:4 →": api.ErrSyntax, "(3:→33": api.ErrRange, "r:4 →)": api.ErrSyntax, "→clef 0 bass": api.ErrSyntax, "r:4 →/": api.ErrSyntax,
	} {
		front, back, _ := strings.Cut(marked, "→")
		wantLine, wantColumn := endOf(front)
		if x, line, column, e := parser.Voice(front + back); text(x) != text(api.Voice{}) || line != wantLine || column != wantColumn || e != want {
			t.Errorf("Voice(%q) = %+v, %d, %d, error %d", front+back, x, line, column, e)
		}
	}
}

// TestP19_1Random changes tokens of texts, and compares the first error with that of the grammar.
func TestP19_1Random(t *testing.T) {
	t.Parallel()
	m := newMachine()
	counts := map[api.Errno]int{}
	for seed := range 12000 {
		g := &maker{Source: sample.New(seed)}
		rule := sample.Pick(g.Source, "text", "text", "voice", "event")
		s := changed(g.Source, written(g.Source, rule == "text", func(w *writer) {
			switch rule {
			case "text":
				w.score(wild(g.Source))
			case "voice":
				w.voice(g.voice(0))
			case "event":
				w.event(g.event())
			}
		}))
		l, wantLine, wantColumn, want := lexer.Scan(s)
		if want == api.OK {
			wantLine, wantColumn, want = m.check(rule, l)
		}
		var line, column int
		var e api.Errno
		switch rule {
		case "text":
			_, line, column, e = parser.Read(s)
		case "voice":
			_, line, column, e = parser.Voice(s)
		case "event":
			_, line, column, e = parser.Event(s)
		}
		counts[e]++
		if line != wantLine || column != wantColumn || e != want {
			t.Fatalf("seed %d: %s %q: error %d at %d, %d; want %d at %d, %d", seed, rule, s, e, line, column, want, wantLine, wantColumn)
		}
	}
	for _, e := range []api.Errno{api.OK, api.ErrSyntax, api.ErrUnknown, api.ErrPitch, api.ErrValue, api.ErrMetre, api.ErrRange} {
		if counts[e] < 50 {
			t.Errorf("the error %d occurs only %d times", e, counts[e])
		}
	}
}

// changed changes some tokens of a text.
func changed(r *sample.Source, s string) string {
	l, _, _, _ := lexer.Scan(s)
	l = l[:len(l)-1]
	for range 1 + r.Below(3) {
		at := r.Below(len(l) + 1)
		end := min(at+r.Below(3), len(l))
		other := sample.Pick(r, "5", "0", "999", "32", "b", "C4", "G", "r", "R", "up", "p", "x", "slur", "system", "bass", "clef", "grace", "measure", "part", "jump", "metre", "3", "/", "+", "#", "-", ".", ":", ";", "(", ")", "<", ">", "{", "}", "[", "]", "@", "~", "!", "_", `""`, `"la"`)
		x := lexer.Token{Kind: lexer.Symbol, Text: other, Joined: r.Chance(50)}
		if len(l) > 0 && r.Chance(60) {
			x = l[r.Below(len(l))]
		}
		switch {
		case r.Chance(25):
			l = slices.Delete(l, at, end)
		case r.Chance(30):
			l = slices.Insert(l, at, x)
		case r.Chance(20):
			l = l[:at]
		case r.Chance(20) && at < len(l):
			l[at].Joined = !l[at].Joined
		default:
			l = slices.Replace(l, at, end, x)
		}
	}
	return lexer.Print(l)
}

// TestP19_1Bytes reads texts of which bytes are changed, so that the lexer's errors occur, too.
func TestP19_1Bytes(t *testing.T) {
	t.Parallel()
	m := newMachine()
	for seed := range 4000 {
		g := &maker{Source: sample.New(seed)}
		s := []byte(written(g.Source, true, func(w *writer) { w.score(wild(g.Source)) }))
		for range g.Below(4) {
			s[g.Below(len(s))] = sample.Pick(g.Source, byte(g.Below(256)), '"', ' ', '.', 'C', '1')
		}
		l, wantLine, wantColumn, want := lexer.Scan(string(s))
		if want == api.OK {
			wantLine, wantColumn, want = m.check("text", l)
		}
		if _, line, column, e := parser.Read(string(s)); line != wantLine || column != wantColumn || e != want {
			t.Fatalf("seed %d: %q: error %d at %d, %d; want %d at %d, %d", seed, s, e, line, column, want, wantLine, wantColumn)
		}
	}
}
