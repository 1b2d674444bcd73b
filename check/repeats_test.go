package check_test

import (
	"slices"
	"testing"

	"hemiola/api"
	"hemiola/check"
	"hemiola/sample"
	"hemiola/score"
)

// repeatsOf returns the rule of repeats for a score.
func repeatsOf(s api.Score) func(s api.Score, o object) bool {
	wrong := map[int]bool{}
	for i, m := range s.Measures {
		wrong[i] = m.RepeatEnd < 0 || m.RepeatEnd == 1 || m.RepeatEnd > 8 || m.Endings < 0 || m.Endings > 255
	}
	misplaced, l := -1, signsOf(s.Measures)
	for i := range s.Measures {
		if misplaced < 0 && !viable(l[:i+1]) {
			misplaced = i
		}
	}
	if misplaced < 0 && !whole(l) {
		misplaced = len(s.Measures) - 1
	}
	return func(s api.Score, o object) bool {
		if o.kind != bar {
			return false
		}
		for _, is := range wrong {
			if is {
				return wrong[o.measure]
			}
		}
		return o.measure == misplaced
	}
}

// sign is the repeats of a measure.
type sign struct {
	start        bool
	end, endings int
}

func signsOf(l []api.Measure) []sign {
	var out []sign
	for _, m := range l {
		out = append(out, sign{m.RepeatStart, m.RepeatEnd, m.Endings})
	}
	return out
}

// whole reports whether measures can be divided into groups and measures that belong to none.
func whole(l []sign) bool {
	known := make([]int, 2*len(l)+2)
	var rest func(at int, fresh bool) bool
	look := func(at int, fresh bool) bool {
		first := l[at]
		if first == (sign{}) && rest(at+1, false) {
			return true
		}
		if !first.start && !fresh {
			return false
		}
		for end := at + 1; end <= len(l) && isBody(l[at:end]); end++ {
			if (l[end-1].end != 0 || !first.start) && rest(end, true) {
				return true
			}
			for after := end + 1; after <= len(l) && l[end-1].end == 0 && l[after-1].endings != 0; after++ {
				longest := after == len(l) || l[after].endings != l[after-1].endings
				if longest && areEndings(l[end:after]) && rest(after, true) {
					return true
				}
			}
		}
		return false
	}
	rest = func(at int, fresh bool) bool {
		if at == len(l) {
			return true
		}
		k := 2 * at
		if fresh {
			k++
		}
		if known[k] == 0 {
			known[k] = 1
			if look(at, fresh) {
				known[k] = 2
			}
		}
		return known[k] == 2
	}
	return rest(0, true)
}

// isBody reports whether measures can be the body of a group.
func isBody(l []sign) bool {
	for i, m := range l {
		if m.endings != 0 || m.start && i > 0 || m.end != 0 && i < len(l)-1 {
			return false
		}
	}
	return true
}

// areEndings reports whether measures are the endings of a group.
func areEndings(l []sign) bool {
	var runs [][]sign
	for i, m := range l {
		if m.endings == 0 || m.start {
			return false
		}
		if i == 0 || l[i-1].endings != m.endings {
			runs = append(runs, nil)
		}
		runs[len(runs)-1] = append(runs[len(runs)-1], m)
	}
	if len(runs) < 2 {
		return false
	}
	n, together := runs[0][len(runs[0])-1].end, 0
	if n < 2 {
		return false
	}
	for i, run := range runs {
		bits := run[0].endings
		for k, m := range run {
			want := n
			if k < len(run)-1 || i == len(runs)-1 {
				want = 0
			}
			if m.end != want {
				return false
			}
		}
		if together&bits != 0 || i == 0 && bits&1 == 0 || i == len(runs)-1 && bits != 1<<(n-1) {
			return false
		}
		together |= bits
	}
	return together == 1<<n-1
}

// viable reports whether more measures can follow, so that all of them can be divided into groups: the current ending is continued to its end, the remaining passes have one ending, the last one another one, or a body is repeated.
func viable(l []sign) bool {
	if whole(l) {
		return true
	}
	last, used := l[len(l)-1], 0
	for i := len(l) - 1; i >= 0 && l[i].endings != 0; i-- {
		used |= l[i].endings
	}
	for n := 2; n <= 8; n++ {
		for choice := range 16 {
			more := slices.Clone(l)
			for i, m := range []sign{{endings: last.endings, end: n}, {endings: (1<<(n-1) - 1) &^ used, end: n}, {endings: 1 << (n - 1)}, {end: 2}} {
				if choice>>i&1 == 1 {
					more = append(more, m)
				}
			}
			if whole(more) {
				return true
			}
		}
	}
	return false
}

// form returns a score of one staff with the repeats of measures.
func form(l []api.Measure) api.Score {
	s := score.New("", 1)
	for _, m := range l {
		m.Metre = api.Metre{Count: 1, Unit: 4}
		m.Cells = []api.Cell{{Voices: []api.Voice{{Events: []api.Event{{Kind: api.MeasureRest}}}}}}
		s.Measures = append(s.Measures, m)
	}
	return score.Renumber(s)
}

// violated returns the indices of the measures of a form that violate a rule.
func violated(t *testing.T, s api.Score, rule int) []int {
	t.Helper()
	var l []int
	for _, v := range check.Check(s) {
		p, found := score.Find(s, v.Object)
		if v.Rule != rule || !found || p.Kind != score.Measure {
			t.Fatalf("the violations are %s", texts(check.Check(s)))
		}
		l = append(l, p.Measure)
	}
	return l
}

func TestP16_1Repeats(t *testing.T) {
	// Each word is a measure: ( for a RepeatStart, the endings as digits of the passes, and after a colon the RepeatEnd.
	for _, c := range []struct {
		words []string
		want  []int
	}{
		{[]string{"-"}, nil}, {[]string{"-", "-", "-"}, nil}, {[]string{":2"}, nil}, {[]string{"-", ":8"}, nil}, {[]string{"(:2"}, nil}, {[]string{"-", "(", "-", ":3", "-"}, nil}, {[]string{":2", ":2", "(:2", ":2"}, nil}, {[]string{"-", "(:2", "-", "(:2"}, nil},
		{[]string{"("}, []int{0}}, {[]string{"-", "(", "-", "-"}, []int{3}}, {[]string{"(", "(:2"}, []int{1}}, {[]string{"(", "-", "("}, []int{2}},
		{[]string{":1"}, []int{0}}, {[]string{":9", "(", "-1", ":1"}, []int{0, 2, 3}}, {[]string{":-2", ":2"}, []int{0}}, {[]string{"123456789", "-", "-1"}, []int{0, 2}},
		// Endings.
		{[]string{"(", "1:2", "2", "-"}, nil}, {[]string{"-", "1:2", "2", "-"}, nil}, {[]string{"(", "1", "2", "-"}, []int{2}}, {[]string{"(", "1", "1:2", "2", "2"}, nil}, {[]string{"(", "1:2", "1", "2"}, []int{2}}, {[]string{"(", "1:2", "1:2", "2"}, []int{2}},
		{[]string{"1:2", "2"}, []int{0}}, {[]string{"(:2", "1:2", "2"}, []int{1}}, {[]string{"(", ":2", "1:2", "2"}, []int{2}}, {[]string{"(", "(1:2", "2"}, []int{1}}, {[]string{"(", "1:2", "(2"}, []int{2}}, {[]string{"(", "1:2", "2", "(:2"}, nil}, {[]string{"(", "1:2", "2", "1:2", "2"}, []int{3}}, {[]string{"(", "1:2", "2", "-", "1:2", "2"}, nil},
		{[]string{"(", "1:2"}, []int{1}}, {[]string{"(", "1"}, []int{1}}, {[]string{"(", "1:2", "-"}, []int{2}}, {[]string{"(", "1", "-"}, []int{2}}, {[]string{"(", "1:3", "2:3"}, []int{2}}, {[]string{"(", "1:3", "2:3", "-"}, []int{3}},
		{[]string{"(", "1:3", "2:3", "3"}, nil}, {[]string{"(", "12:3", "3"}, nil}, {[]string{"(", "13:4", "2:4", "4"}, nil}, {[]string{"(", "1:4", "23:4", "4", "4", "-"}, nil}, {[]string{"(", "1:4", "3:4", "2:4", "4"}, nil}, {[]string{"(", "1234567:8", "8"}, nil}, {[]string{"(", "1:8", "2:8", "3:8", "4:8", "5:8", "6:8", "7:8", "8"}, nil},
		{[]string{"(", "2:3", "1:3", "3"}, []int{1}}, {[]string{"(", "18:8"}, []int{1}}, {[]string{"(", "12:2", "3"}, []int{1}}, {[]string{"(", "12", "12:2"}, []int{2}}, {[]string{"(", "1:3", "3"}, []int{2}}, {[]string{"(", "1:3", "23"}, []int{2}}, {[]string{"(", "1:3", "4:3"}, []int{2}}, {[]string{"(", "1:3", "12:3", "3"}, []int{2}}, {[]string{"(", "1:3", "2:2", "3"}, []int{2}}, {[]string{"(", "1:3", "2", "3"}, []int{3}}, {[]string{"(", "1:3", "2:3", "3:3"}, []int{3}}, {[]string{"(", "1:2", "2:2"}, []int{2}}, {[]string{"(", "1:2", "2", "2:2"}, []int{3}}, {[]string{"(", "1:3", "2:3", "3", "12"}, []int{4}},
		{[]string{"(", "1:3", "2:3", "3", "3", ":2"}, nil}, {[]string{"(", "1:2", "2", "3"}, []int{3}}, {[]string{"-", "1:2", "2", ":2", "-", "1:2", "2"}, nil},
	} {
		var l []api.Measure
		for _, word := range c.words {
			l = append(l, readForm(word))
		}
		if got := violated(t, form(l), check.Repeats); !slices.Equal(got, c.want) {
			t.Errorf("%v is violated by the measures %v; want %v", c.words, got, c.want)
		}
	}
}

func TestP16_1EndingsRange(t *testing.T) {
	for _, c := range []struct{ endings, want []int }{{[]int{255, 256}, []int{1}}, {[]int{0, 256, -1}, []int{1, 2}}, {[]int{0, 255}, []int{1}}, {[]int{0, 127}, []int{1}}, {[]int{0, 127, 128}, []int{2}}} {
		var l []api.Measure
		for _, bits := range c.endings {
			l = append(l, api.Measure{Endings: bits})
		}
		if got := violated(t, form(l), check.Repeats); !slices.Equal(got, c.want) {
			t.Errorf("%v is violated by the measures %v; want %v", c.endings, got, c.want)
		}
	}
}

// readForm returns the measure with a word.
func readForm(word string) api.Measure {
	var m api.Measure
	for i := 0; i < len(word); i++ {
		switch c := word[i]; c {
		case '(':
			m.RepeatStart = true
		case '-':
			m.Endings = 0
			if len(word) == 2 {
				m.Endings, i = -1, 2
			}
		case ':':
			m.RepeatEnd = int(word[i+1]) - '0'
			if word[i+1] == '-' {
				m.RepeatEnd = -2
			}
			i = len(word)
		default:
			m.Endings |= 1 << (c - '1')
		}
	}
	return m
}

func TestP16_1ShortForms(t *testing.T) {
	t.Parallel()
	var choices []api.Measure
	for _, start := range []bool{false, true} {
		for _, end := range []int{0, 2, 3} {
			for _, bits := range []int{0, 1, 2, 3, 4, 6} {
				choices = append(choices, api.Measure{RepeatStart: start, RepeatEnd: end, Endings: bits})
			}
		}
	}
	forms, valid := 0, 0
	var extend func(l []api.Measure)
	extend = func(l []api.Measure) {
		for _, m := range choices {
			longer := append(slices.Clone(l), m)
			var want []int
			continued := viable(signsOf(longer))
			if !whole(signsOf(longer)) {
				want = []int{len(l)}
			} else {
				valid++
			}
			forms++
			if got := violated(t, form(longer), check.Repeats); !slices.Equal(got, want) {
				t.Fatalf("%+v is violated by the measures %v; want %v", longer, got, want)
			}
			if len(longer) < 4 && continued {
				extend(longer)
			}
		}
	}
	extend(nil)
	if valid < 500 {
		t.Errorf("only %d of %d forms are valid", valid, forms)
	}
}

func TestP16_1LongForms(t *testing.T) {
	t.Parallel()
	valid := 0
	for seed := range 3000 {
		r := sample.New(seed)
		s := form(sample.Score(r).Measures)
		l := s.Measures
		for i := range l {
			l[i].Jump, l[i].Labels, l[i].Tempi, l[i].Swing, l[i].Break, l[i].Length, l[i].Fifths = 0, 0, nil, 0, 0, 0, 0
		}
		for range r.Below(3) {
			m := &l[r.Below(len(l))]
			switch r.Below(6) {
			case 0:
				m.RepeatStart = !m.RepeatStart
			case 1:
				m.RepeatEnd = sample.Pick(r, 0, 2, 3, 4, 8)
			case 2:
				m.Endings = r.Below(16)
			case 3:
				m.Endings = r.Below(256)
			case 4:
				*m = l[r.Below(len(l))]
			case 5:
				l = slices.Delete(l, 0, r.Below(len(l)))
			}
		}
		s.Measures = l
		s = score.Renumber(s)
		violates, want := repeatsOf(s), []int(nil)
		for _, o := range objectsOf(s) {
			if violates(s, o) {
				want = append(want, o.measure)
			}
		}
		if len(want) == 0 {
			valid++
		}
		if got := violated(t, s, check.Repeats); !slices.Equal(got, want) {
			t.Fatalf("%+v is violated by the measures %v; want %v", s.Measures, got, want)
		}
	}
	if valid < 500 || valid > 2500 {
		t.Errorf("%d forms are valid", valid)
	}
}
