package interval_test

import (
	"math/rand"
	"strconv"
	"strings"
	"testing"

	"hemiola/api"
	"hemiola/interval"
)

// described is what the chapter says of an interval.
type described struct {
	quality, times int
	short, english string
}

// describe returns the quality and the names of a valid interval, from the text of the chapter.
func describe(i api.Interval) described {
	if i.Steps < 0 || i.Steps == 0 && i.Semitones < 0 {
		d := describe(of(-i.Steps, -i.Semitones))
		return described{d.quality, d.times, "-" + d.short, "descending " + d.english}
	}
	deviation := i.Semitones - 12*(i.Steps/7) - []int{0, 2, 4, 5, 7, 9, 11}[i.Steps%7]
	d := described{}
	letter, word := "", ""
	perfect := i.Steps%7 == 0 || i.Steps%7 == 3 || i.Steps%7 == 4
	switch {
	case deviation > 0:
		d.quality, d.times, letter, word = interval.Augmented, deviation, strings.Repeat("A", deviation), "augmented"
	case perfect && deviation == 0:
		d.quality, letter, word = interval.Perfect, "P", "perfect"
	case deviation == 0:
		d.quality, letter, word = interval.Major, "M", "major"
	case !perfect && deviation == -1:
		d.quality, letter, word = interval.Minor, "m", "minor"
	default:
		d.quality, d.times, word = interval.Diminished, -deviation, "diminished"
		if !perfect {
			d.times--
		}
		letter = strings.Repeat("d", d.times)
	}
	d.short = letter + strconv.Itoa(i.Steps+1)
	switch {
	case d.times == 2:
		d.english = "doubly "
	case d.times == 3:
		d.english = "triply "
	case d.times > 3:
		d.english = strconv.Itoa(d.times) + " times "
	}
	d.english += word + " " + size(i.Steps+1)
	return d
}

// size returns the word of a number of steps plus 1.
func size(n int) string {
	if n <= 8 {
		return strings.Fields("unison second third fourth fifth sixth seventh octave")[n-1]
	}
	end := "th"
	if m := n % 100; m < 11 || m > 13 {
		end = map[int]string{1: "st", 2: "nd", 3: "rd"}[n%10]
		if end == "" {
			end = "th"
		}
	}
	return strconv.Itoa(n) + end
}

func TestP6_5Quality(t *testing.T) {
	if interval.Diminished != -2 || interval.Minor != -1 || interval.Perfect != 0 || interval.Major != 1 || interval.Augmented != 2 {
		t.Error("constants")
	}
	for _, i := range valid() {
		want := describe(i)
		if quality, times, e := interval.Quality(i); quality != want.quality || times != want.times || e != api.OK {
			t.Fatalf("Quality(%v) = %d, %d, error %d; want %d, %d", i, quality, times, e, want.quality, want.times)
		}
	}
	for _, i := range wrong {
		if quality, times, e := interval.Quality(i); quality != 0 || times != 0 || e != api.ErrRange {
			t.Errorf("Quality(%v) = %d, %d, error %d", i, quality, times, e)
		}
	}
}

func TestP6_6AllNames(t *testing.T) {
	seen := map[string]bool{}
	for _, i := range valid() {
		want := describe(i)
		short, e := interval.Text(i)
		if short != want.short || e != api.OK {
			t.Fatalf("Text(%v) = %q, error %d; want %q", i, short, e, want.short)
		}
		if name, e := interval.Name(i); name != want.english || e != api.OK {
			t.Fatalf("Name(%v) = %q, error %d; want %q", i, name, e, want.english)
		}
		if back, e := interval.Parse(short); back != i || e != api.OK {
			t.Fatalf("Parse(%q) = %v, error %d; want %v", short, back, e, i)
		}
		if len(short) > 300 || seen[short] {
			t.Fatalf("%q is too long, or occurs twice", short)
		}
		seen[short] = true
	}
	for _, i := range wrong {
		if s, e := interval.Text(i); s != "" || e != api.ErrRange {
			t.Errorf("Text(%v) = %q, error %d", i, s, e)
		}
		if s, e := interval.Name(i); s != "" || e != api.ErrRange {
			t.Errorf("Name(%v) = %q, error %d", i, s, e)
		}
	}
}

func TestP6_6Examples(t *testing.T) {
	for i, want := range map[api.Interval]described{
		of(2, 3):     {interval.Minor, 0, "m3", "minor third"},
		of(-2, -3):   {interval.Minor, 0, "-m3", "descending minor third"},
		of(0, 0):     {interval.Perfect, 0, "P1", "perfect unison"},
		of(0, 1):     {interval.Augmented, 1, "A1", "augmented unison"},
		of(0, -1):    {interval.Augmented, 1, "-A1", "descending augmented unison"},
		of(-1, 1):    {interval.Diminished, 2, "-dd2", "descending doubly diminished second"},
		of(1, 0):     {interval.Diminished, 1, "d2", "diminished second"},
		of(3, 6):     {interval.Augmented, 1, "A4", "augmented fourth"},
		of(3, 7):     {interval.Augmented, 2, "AA4", "doubly augmented fourth"},
		of(4, 6):     {interval.Diminished, 1, "d5", "diminished fifth"},
		of(5, 12):    {interval.Augmented, 3, "AAA6", "triply augmented sixth"},
		of(6, 6):     {interval.Diminished, 4, "dddd7", "4 times diminished seventh"},
		of(7, 12):    {interval.Perfect, 0, "P8", "perfect octave"},
		of(8, 15):    {interval.Augmented, 1, "A9", "augmented 9th"},
		of(10, 17):   {interval.Perfect, 0, "P11", "perfect 11th"},
		of(11, 19):   {interval.Perfect, 0, "P12", "perfect 12th"},
		of(12, 20):   {interval.Minor, 0, "m13", "minor 13th"},
		of(20, 35):   {interval.Major, 0, "M21", "major 21st"},
		of(-21, -36): {interval.Perfect, 0, "-P22", "descending perfect 22nd"},
		of(22, 38):   {interval.Major, 0, "M23", "major 23rd"},
		of(77, -140): {interval.Diminished, 272, strings.Repeat("d", 272) + "78", "272 times diminished 78th"},
	} {
		quality, times, e := interval.Quality(i)
		short, f := interval.Text(i)
		name, g := interval.Name(i)
		if got := (described{quality, times, short, name}); got != want || e != api.OK || f != api.OK || g != api.OK {
			t.Errorf("%v: %v, errors %d, %d, %d; want %v", i, got, e, f, g, want)
		}
	}
}

func TestP6_6ParseErrors(t *testing.T) {
	for s, want := range map[string]api.Errno{
		"":                              api.ErrShort,
		strings.Repeat("A", 301):        api.ErrLong,
		strings.Repeat("\x00", 301):     api.ErrLong,
		"m3" + strings.Repeat(" ", 299): api.ErrLong,
		strings.Repeat("A", 300):        api.ErrSyntax,
		strings.Repeat("A", 299) + "1":  api.ErrSyntax,
		strings.Repeat("A", 141) + "1":  api.ErrSyntax,
		strings.Repeat("d", 273) + "78": api.ErrSyntax,
		"M" + strings.Repeat("9", 299):  api.ErrSyntax,
		"P2":                            api.ErrSyntax, "M1": api.ErrSyntax, "m1": api.ErrSyntax, "M4": api.ErrSyntax, "m5": api.ErrSyntax, "P3": api.ErrSyntax, "P7": api.ErrSyntax, "M8": api.ErrSyntax, "m4": api.ErrSyntax,
		"PP1": api.ErrSyntax, "MM3": api.ErrSyntax, "mm3": api.ErrSyntax, "Ad4": api.ErrSyntax, "dA4": api.ErrSyntax, "Am2": api.ErrSyntax,
		"d1": api.ErrSyntax, "dd1": api.ErrSyntax, "-P1": api.ErrSyntax, "-d1": api.ErrSyntax, "--A1": api.ErrSyntax, "-": api.ErrSyntax, "+M3": api.ErrSyntax,
		"M": api.ErrSyntax, "3": api.ErrSyntax, "-3": api.ErrSyntax, "M0": api.ErrSyntax, "P0": api.ErrSyntax, "M03": api.ErrSyntax, "P01": api.ErrSyntax, "M+3": api.ErrSyntax, "M-3": api.ErrSyntax, "M3 ": api.ErrSyntax, " M3": api.ErrSyntax, "M 3": api.ErrSyntax,
		"P79": api.ErrSyntax, "M80": api.ErrSyntax, "m79": api.ErrSyntax, "A99999999999999999999": api.ErrSyntax, "p1": api.ErrSyntax, "D5": api.ErrSyntax, "a4": api.ErrSyntax, "M3x": api.ErrSyntax, "M3\x00": api.ErrSyntax, "M1_0": api.ErrSyntax,
		"minor third": api.ErrSyntax, "ä3": api.ErrSyntax, "M３": api.ErrSyntax,
	} {
		if i, e := interval.Parse(s); i != (api.Interval{}) || e != want {
			t.Errorf("Parse(%q) = %v, error %d; want %d", s, i, e, want)
		}
	}
}

func TestP6_6ParseTexts(t *testing.T) {
	known := map[string]api.Interval{}
	for _, i := range valid() {
		known[describe(i).short] = i
	}
	random := rand.New(rand.NewSource(6))
	for range 300000 {
		text := make([]byte, 1+random.Intn(5))
		for k := range text {
			text[k] = "-PMmAAdd0112345678"[random.Intn(18)]
		}
		want, ok := known[string(text)]
		error := api.OK
		if !ok {
			error = api.ErrSyntax
		}
		if i, e := interval.Parse(string(text)); i != want || e != error {
			t.Fatalf("Parse(%q) = %v, error %d; want %v, error %d", text, i, e, want, error)
		}
	}
}
