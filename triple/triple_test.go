package triple

import (
	"math"
	"strings"
	"testing"

	"retiary/api"
)

// oddNumbers is numbers that are no symbols: those beside the edges, those whose lower bits are a symbol's, and the outermost ones.
func oddNumbers() []int {
	return []int{0, -1, -2, -4096, -4097, 4097, 4098, 8192, 1 << 8 * 4096, 1<<16 + 1, 1<<32 + 1, 1<<32 + 4096, 1<<48 + 7, -1<<32 + 1, math.MaxInt32, math.MinInt32, math.MaxInt, math.MaxInt - 1, math.MinInt, math.MinInt + 1}
}

// digits is a number from 0 on as decimal digits, reckoned here, so that the tests hold the program against the document alone.
func digits(n int) string {
	s := string(rune('0' + n%10))
	if n >= 10 {
		return digits(n/10) + s
	}
	return s
}

// textOf is the text that the document gives to a right triple.
func textOf(t api.Triple) string {
	return digits(t[0]) + "\x20" + digits(t[1]) + "\x20" + digits(t[2])
}

// wordsOf is the texts of symbols that have these signs alone, up to so many signs.
func wordsOf(signs string, most int) map[string]int {
	words := map[string]int{}
	for n := 1; n <= 4096; n++ {
		s := digits(n)
		if len(s) <= most && strings.Trim(s, signs) == "" {
			words[s] = n
		}
	}
	return words
}

// model is the triple of a text by the document's words, read byte by byte.
func model(s string) (api.Triple, bool) {
	var t api.Triple
	f, begun := 0, false
	for i := 0; i < len(s); i++ {
		c := s[i]
		switch {
		case c >= '1' && c <= '9' || c == '0' && begun:
			t[f] = t[f]*10 + int(c-'0')
			begun = true
			if t[f] > 4096 {
				return api.Triple{}, false
			}
		case c == ' ' && begun && f < 2:
			f, begun = f+1, false
		default:
			return api.Triple{}, false
		}
	}
	if f != 2 || !begun {
		return api.Triple{}, false
	}
	return t, true
}

// parses wants that Parse answers what the model answers.
func parses(t *testing.T, s string) {
	t.Helper()
	want, ok := model(s)
	wantError := api.OK
	if !ok {
		wantError = api.ErrForm
	}
	if got, e := Parse(s); got != want || e != wantError {
		t.Fatalf("Parse(%.60q): %v, error %d; wanted %v, error %d", s, got, e, want, wantError)
	}
}

// refused wants that a text is none.
func refused(t *testing.T, s string) {
	t.Helper()
	if got, e := Parse(s); got != (api.Triple{}) || e != api.ErrForm {
		t.Errorf("Parse(%.60q): %v, error %d; wanted ErrForm", s, got, e)
	}
}

// P2.1: each number as each field, beside fields that are symbols.
func TestRight(t *testing.T) {
	for f := 0; f < 3; f++ {
		for n := -5000; n <= 9000; n++ {
			x := api.Triple{1, 4096, 77}
			x[f] = n
			want := n >= 1 && n <= 4096
			if got := Right(x); got != want {
				t.Errorf("Right(%v): %v", x, got)
			}
		}
		for _, n := range oddNumbers() {
			x := api.Triple{4096, 2, 1}
			x[f] = n
			if Right(x) {
				t.Errorf("%v is right", x)
			}
		}
	}
}

// P2.1: the edges in all fields at once.
func TestRightTogether(t *testing.T) {
	edges := []int{0, 1, 4096, 4097}
	symbol := func(n int) bool { return n == 1 || n == 4096 }
	for _, a := range edges {
		for _, b := range edges {
			for _, c := range edges {
				want := symbol(a) && symbol(b) && symbol(c)
				if got := Right(api.Triple{a, b, c}); got != want {
					t.Errorf("Right of %d, %d, %d: %v", a, b, c, got)
				}
			}
		}
	}
}

// manyTriples is all triples of some numbers, symbols and others.
func manyTriples() []api.Triple {
	numbers := []int{math.MinInt, -1, 0, 1, 2, 4096, math.MaxInt}
	var l []api.Triple
	for _, a := range numbers {
		for _, b := range numbers {
			for _, c := range numbers {
				l = append(l, api.Triple{a, b, c})
			}
		}
	}
	return l
}

// compared is what Compare is to answer.
func compared(a, b api.Triple) int {
	switch {
	case a[0] != b[0]:
		return sign(a[0] < b[0])
	case a[1] != b[1]:
		return sign(a[1] < b[1])
	case a[2] != b[2]:
		return sign(a[2] < b[2])
	}
	return 0
}

// sign is -1 for less, 1 for more.
func sign(less bool) int {
	if less {
		return -1
	}
	return 1
}

// P2.1: any two triples of any numbers.
func TestCompare(t *testing.T) {
	l := manyTriples()
	for i, a := range l {
		for j, b := range l {
			if got := Compare(a, b); got != compared(a, b) {
				t.Fatalf("Compare(%v, %v): %d", a, b, got)
			}
			// The list rises, so its places say it as well.
			if got := Compare(a, b); got < 0 != (i < j) || got > 0 != (i > j) {
				t.Fatalf("Compare(%v, %v): %d", a, b, got)
			}
		}
	}
}

// P2.1: as numbers, not as texts.
func TestCompareNumbers(t *testing.T) {
	for f := 0; f < 3; f++ {
		less, more := api.Triple{5, 5, 5}, api.Triple{5, 5, 5}
		less[f], more[f] = 9, 10
		if Compare(less, more) != -1 || Compare(more, less) != 1 || Compare(less, less) != 0 {
			t.Errorf("field %d: 9 isn't less than 10", f)
		}
	}
}

// P2.1: all fields, and numbers that are none.
func TestSame(t *testing.T) {
	places := append(oddNumbers(), -3, 1, 2, 3, 4, 5, 6)
	triples := append(manyTriples(), api.Triple{5, 1, 5}, api.Triple{7, 7, 7}, api.Triple{1, 2, 3})
	for _, x := range triples {
		for _, f := range places {
			for _, g := range places {
				want := f >= 0 && f <= 2 && g >= 0 && g <= 2 && x[f] == x[g]
				if got := Same(x, f, g); got != want {
					t.Fatalf("Same(%v, %d, %d): %v", x, f, g, got)
				}
			}
		}
	}
}

// P2.1: a field is like itself, whatever number it is; no field isn't like itself.
func TestSameItself(t *testing.T) {
	x := api.Triple{0, 4097, math.MinInt}
	for f := 0; f < 3; f++ {
		if !Same(x, f, f) {
			t.Errorf("field %d isn't like itself", f)
		}
	}
	for _, f := range []int{-1, 3, 4, math.MaxInt, math.MinInt} {
		if Same(x, f, f) {
			t.Errorf("%d is no field", f)
		}
	}
}

// sorted wants that Sort answers these triples, and leaves its argument alone.
func sorted(t *testing.T, l, want []api.Triple) {
	t.Helper()
	before := append([]api.Triple(nil), l...)
	got := Sort(l)
	same(t, got, want)
	same(t, l, before)
	for i := range got {
		got[i] = api.Triple{-7, -7, -7}
	}
	got = append(got, api.Triple{-8, -8, -8})
	same(t, l, before)
	// Nor does what is answered change when the argument does.
	got = Sort(l)
	for i := range l {
		l[i] = api.Triple{-9, -9, -9}
	}
	same(t, got, want)
}

// same wants that two lists are alike.
func same(t *testing.T, got, want []api.Triple) {
	t.Helper()
	if len(got) != len(want) {
		t.Fatalf("%d triples; wanted %d", len(got), len(want))
	}
	for i := range want {
		if got[i] != want[i] {
			t.Fatalf("%v at %d; wanted %v", got[i], i, want[i])
		}
	}
}

// orders is all orders of a list.
func orders(l []api.Triple) [][]api.Triple {
	if len(l) == 0 {
		return [][]api.Triple{nil}
	}
	var all [][]api.Triple
	for _, rest := range orders(l[1:]) {
		for i := 0; i <= len(rest); i++ {
			o := append([]api.Triple(nil), rest[:i]...)
			o = append(o, l[0])
			all = append(all, append(o, rest[i:]...))
		}
	}
	return all
}

// P2.1: no triple, one, and all orders of some, alike ones among them: none is lost.
func TestSort(t *testing.T) {
	sorted(t, nil, nil)
	sorted(t, []api.Triple{}, nil)
	sorted(t, []api.Triple{{3, 2, 1}}, []api.Triple{{3, 2, 1}})
	want := []api.Triple{{1, 1, 1}, {1, 1, 2}, {1, 1, 2}, {1, 10, 1}, {2, 1, 1}, {10, 1, 1}, {10, 1, 1}}
	for _, l := range orders(want) {
		sorted(t, l, want)
	}
}

// P2.1: triples that aren't right are sorted, too.
func TestSortAnyNumbers(t *testing.T) {
	want := manyTriples()
	back := make([]api.Triple, 0, len(want))
	for i := range want {
		back = append(back, want[len(want)-1-i])
	}
	sorted(t, back, want)
	sorted(t, append([]api.Triple(nil), want...), want)
}

// P2.1: a long list, in which most triples are there more than once.
func TestSortLong(t *testing.T) {
	var l, want []api.Triple
	for i := 0; i < 3*4096; i++ {
		n := i * 1237 % 4096
		l = append(l, api.Triple{1 + n/256, 1 + n/16%16, 1 + n%16})
		n = i / 3
		want = append(want, api.Triple{1 + n/256, 1 + n/16%16, 1 + n%16})
	}
	sorted(t, l, want)
}

// P2.1: what lies behind the list in its memory isn't touched either.
func TestSortRoom(t *testing.T) {
	all := []api.Triple{{9, 9, 9}, {3, 3, 3}, {2, 2, 2}, {1, 1, 1}}
	got := Sort(all[1:3])
	got = append(got, api.Triple{5, 5, 5})
	same(t, all, []api.Triple{{9, 9, 9}, {3, 3, 3}, {2, 2, 2}, {1, 1, 1}})
	same(t, got, []api.Triple{{2, 2, 2}, {3, 3, 3}, {5, 5, 5}})
}

// P2.1: texts that the document's words give.
func TestText(t *testing.T) {
	for _, x := range []struct {
		t    api.Triple
		text string
	}{
		{api.Triple{3, 1, 4096}, "3 1 4096"},
		{api.Triple{1, 1, 1}, "1 1 1"},
		{api.Triple{4096, 4096, 4096}, "4096 4096 4096"},
		{api.Triple{10, 200, 3000}, "10 200 3000"},
		{api.Triple{9, 99, 999}, "9 99 999"},
		{api.Triple{12, 345, 6}, "12 345 6"},
	} {
		if got, e := Text(x.t); got != x.text || e != api.OK {
			t.Errorf("Text(%v): %q, error %d; wanted %q", x.t, got, e, x.text)
		}
	}
}

// P2.1: triples that aren't right have no text.
func TestTextWrong(t *testing.T) {
	for f := 0; f < 3; f++ {
		for _, n := range oddNumbers() {
			x := api.Triple{1, 2, 3}
			x[f] = n
			if got, e := Text(x); got != "" || e != api.ErrArg {
				t.Errorf("Text(%v): %q, error %d; wanted ErrArg", x, got, e)
			}
		}
	}
	if got, e := Text(api.Triple{}); got != "" || e != api.ErrArg {
		t.Errorf("Text of noughts: %q, error %d; wanted ErrArg", got, e)
	}
}

// P2.2: there and back, with each symbol as each field, and with symbols of all lengths beside each other.
func TestThereAndBack(t *testing.T) {
	for f := 0; f < 3; f++ {
		for n := 1; n <= 4096; n++ {
			x := api.Triple{7, 4096, 10}
			x[f] = n
			thereAndBack(t, x)
		}
	}
	lengths := []int{1, 9, 10, 11, 99, 100, 101, 999, 1000, 1001, 4095, 4096}
	for _, a := range lengths {
		for _, b := range lengths {
			for _, c := range lengths {
				thereAndBack(t, api.Triple{a, b, c})
			}
		}
	}
}

// thereAndBack wants that a right triple has its text, and the text its triple.
func thereAndBack(t *testing.T, x api.Triple) {
	t.Helper()
	text, e := Text(x)
	if text != textOf(x) || e != api.OK {
		t.Fatalf("Text(%v): %q, error %d", x, text, e)
	}
	if y, e := Parse(text); y != x || e != api.OK {
		t.Fatalf("Parse(%q): %v, error %d", text, y, e)
	}
}

// P2.1: numbers that are no symbols, as each field of a text; all those near the symbols, and far ones.
func TestParseNumbers(t *testing.T) {
	far := []string{"", "0", "00", "-1", "-4096", "9999", "65537", "4294967297", "9223372036854775807", "9223372036854775808", "18446744073709551617", "36893488147419103233", "99999999999999999999", "-9223372036854775808", "-9223372036854775809", strings.Repeat("9", 1<<16), strings.Repeat("0", 1<<16) + "1", "1" + strings.Repeat("0", 1<<16)}
	for n := 4097; n <= 20000; n++ {
		far = append(far, digits(n))
	}
	for _, n := range far {
		refused(t, n+" 1 1")
		refused(t, "1 "+n+" 1")
		refused(t, "1 1 "+n)
	}
}

// P2.1: noughts ahead, other ways of writing a number, and signs of it.
func TestParseForms(t *testing.T) {
	for _, n := range []string{"03", "003", "04096", "+3", "-3", "+0", "-0", "0x3", "0X3", "0b1", "0o3", "1_0", "1e3", "3.0", "3.", ".3", "1,000", "1'0", "(3)", "3a", "a", "three", "\u0663", "\uff13", "\u00b3", "3\x00", "\x003", "3\n", "3\r", "\xff", "3\u0301", "NaN", "Inf"} {
		refused(t, n+" 1 2")
		refused(t, "1 "+n+" 2")
		refused(t, "1 2 "+n)
	}
}

// P2.1: more or fewer blanks and fields than there are to be, and other signs in a blank's place.
func TestParseBlanks(t *testing.T) {
	for _, s := range []string{"", " ", "  ", "   ", "1", "12", "123", "1 2", "1 2 ", " 1 2", "1  2", "1 2 3 4", "1 2 3 4 5", "1 2 3 ", " 1 2 3", "1  2 3", "1 2  3", " 1 2 3 ", "1 2 3  ", "  1 2 3", "1 2 3\n", "\n1 2 3", "1 2 3\n1 2 3", "1 2 3\x00", "1 2\x00 3", "\ufeff1 2 3", "1 2 3" + strings.Repeat(" ", 1<<20), strings.Repeat(" ", 1<<20), strings.Repeat("1 ", 1<<20) + "1"} {
		refused(t, s)
	}
	for _, blank := range []string{"", "\t", "\n", "\r", "\v", "\f", "\u00a0", "\u2003", "\u3000", "\u0085", "\x00", ",", ", ", " ,", ";", "-", "+", "_", ".", "\t ", " \t"} {
		refused(t, "1"+blank+"2 3")
		refused(t, "1 2"+blank+"3")
		refused(t, "1"+blank+"2"+blank+"3")
	}
}

// P2.1 and P2.2: of all short texts of some signs, those are taken that are a triple's text, and no others.
func TestParseAllShort(t *testing.T) {
	const signs, most = "0 14+", 8
	words := wordsOf(signs, most)
	taken := 0
	var grow func(s string)
	grow = func(s string) {
		parses(t, s)
		x, e := Parse(s)
		if e == api.OK {
			taken++
			if back, e := Text(x); back != s || e != api.OK {
				t.Fatalf("Text of Parse(%q): %q, error %d", s, back, e)
			}
		}
		for i := 0; i < len(signs) && len(s) < most; i++ {
			grow(s + signs[i:i+1])
		}
	}
	grow("")
	want := 0
	for a := range words {
		for b := range words {
			for c := range words {
				if len(a)+len(b)+len(c)+2 <= most {
					want++
				}
			}
		}
	}
	if taken != want {
		t.Errorf("%d texts are taken; wanted %d", taken, want)
	}
}

// P2.1: right texts in which one byte is another one, is gone, or has come between.
func TestParseOneByte(t *testing.T) {
	for _, s := range []string{"3 1 4096", "10 2 4096", "4096 4096 4096", "1 1 1", "999 40 7"} {
		parses(t, s)
		for i := 0; i <= len(s); i++ {
			for b := 0; b < 256; b++ {
				c := string([]byte{byte(b)})
				parses(t, s[:i]+c+s[i:])
				if i < len(s) {
					parses(t, s[:i]+c+s[i+1:])
				}
			}
			parses(t, s[:i])
			parses(t, s[i:])
			if i < len(s) {
				parses(t, s[:i]+s[i+1:])
			}
		}
	}
}

// P2.1: what the examples of the chapter say.
func TestExamples(t *testing.T) {
	if x, e := Parse("3 1 4096"); x != (api.Triple{3, 1, 4096}) || e != api.OK {
		t.Errorf("3 1 4096: %v, error %d", x, e)
	}
	refused(t, "03 1 2")
}
