package key

import (
	"math"
	"slices"
	"strconv"
	"strings"
	"testing"

	"retiary/api"
)

// wrongNumbers is numbers that are no symbol and not 0: those beside the edges, those whose lower bits are a symbol's, and the outermost ones.
func wrongNumbers() []int {
	return []int{-1, -2, -4096, -4097, 4097, 4098, 8192, 1<<16 + 1, 1<<32 + 1, 1<<32 + 4096, -1<<32 + 1, 1 << 32, math.MaxInt32, math.MinInt32, math.MaxInt, math.MaxInt - 1, math.MinInt, math.MinInt + 1}
}

// edges is 0, the outermost symbols, and some between.
func edges() []int { return []int{0, 1, 2, 9, 10, 2048, 4095, 4096} }

// cube is all triples whose fields are some of these.
func cube(of []int) []api.Triple {
	var all []api.Triple
	for _, a := range of {
		for _, b := range of {
			for _, c := range of {
				all = append(all, api.Triple{a, b, c})
			}
		}
	}
	return all
}

// eight is a triple's keys, one by one as the chapter numbers them.
func eight(a, b, c int) []api.Triple {
	return []api.Triple{{0, 0, 0}, {a, 0, 0}, {0, b, 0}, {a, b, 0}, {0, 0, c}, {a, 0, c}, {0, b, c}, {a, b, c}}
}

// textOf is the text that the chapter gives to a right key.
func textOf(k api.Triple) string {
	var fields []string
	for _, n := range k {
		fields = append(fields, map[bool]string{true: "*", false: strconv.Itoa(n)}[n == 0])
	}
	return strings.Join(fields, "\x20")
}

// fieldsOf is all texts that a field of a right key may have.
func fieldsOf() map[string]int {
	fields := map[string]int{"*": 0}
	for n := 1; n <= 4096; n++ {
		fields[strconv.Itoa(n)] = n
	}
	return fields
}

// wantParse wants of a text what its fields come to, cut at each blank.
func wantParse(t *testing.T, fields map[string]int, s string) {
	t.Helper()
	parts := strings.Split(s, "\x20")
	var want api.Triple
	right := len(parts) == 3
	for f := 0; right && f < 3; f++ {
		want[f], right = fields[parts[f]]
	}
	if !right {
		refused(t, s)
		return
	}
	if k, e := Parse(s); k != want || e != api.OK {
		t.Fatalf("Parse(%q): %v, error %d; wanted %v", s, k, e, want)
	}
	if back, e := Text(want); back != s || e != api.OK {
		t.Fatalf("Text(%v): %q, error %d; wanted %q", want, back, e, s)
	}
}

// refused wants that a text is none.
func refused(t *testing.T, s string) {
	t.Helper()
	if k, e := Parse(s); k != (api.Triple{}) || e != api.ErrForm {
		t.Fatalf("Parse(%.60q): %v, error %d; wanted ErrForm", s, k, e)
	}
}

// P7.1: each number as each field, beside fields that are right.
func TestRight(t *testing.T) {
	for f := range 3 {
		for n := -5000; n <= 9000; n++ {
			k := api.Triple{0, 4096, 77}
			k[f] = n
			if got := Right(k); got != (n >= 0 && n <= 4096) {
				t.Errorf("Right(%v): %v", k, got)
			}
		}
		for _, n := range wrongNumbers() {
			for _, k := range cube([]int{0, 1, 4096}) {
				k[f] = n
				if Right(k) {
					t.Errorf("%v is right", k)
				}
			}
		}
	}
	for _, k := range cube(edges()) {
		if !Right(k) {
			t.Errorf("%v isn't right", k)
		}
	}
}

// P7.1: each symbol and each variable as each field: a symbol's number, 0 of a variable.
func TestOfEach(t *testing.T) {
	for f := range 3 {
		for n := 1; n <= 4096; n++ {
			l := [3]api.Term{{N: 4096}, {N: 1}, {N: 7}}
			want := api.Triple{4096, 1, 7}
			l[f], want[f] = api.Term{N: n}, n
			wantOf(t, l, want)
			l[(f+1)%3], want[(f+1)%3] = api.Term{Var: true, N: 1}, 0
			l[(f+2)%3], want[(f+2)%3] = api.Term{Var: true, N: 32}, 0
			wantOf(t, l, want)
		}
		for n := 1; n <= 32; n++ {
			// The symbols have variables' numbers, and the other way round.
			l := [3]api.Term{{N: n}, {N: n}, {N: n}}
			want := api.Triple{n, n, n}
			l[f], want[f] = api.Term{Var: true, N: n}, 0
			wantOf(t, l, want)
		}
	}
}

// wantOf wants that terms have that key.
func wantOf(t *testing.T, l [3]api.Term, want api.Triple) {
	t.Helper()
	if got := Of(l); got != want {
		t.Errorf("Of(%v): %v; wanted %v", l, got, want)
	}
}

// P7.1: each mixture of symbols and variables, and of like ones.
func TestOfMixtures(t *testing.T) {
	terms := []api.Term{{N: 1}, {N: 2}, {N: 32}, {N: 33}, {N: 4096}, {Var: true, N: 1}, {Var: true, N: 2}, {Var: true, N: 32}}
	keys := []int{1, 2, 32, 33, 4096, 0, 0, 0}
	for a, x := range terms {
		for b, y := range terms {
			for c, z := range terms {
				k := api.Triple{keys[a], keys[b], keys[c]}
				wantOf(t, [3]api.Term{x, y, z}, k)
				if !Right(k) {
					t.Errorf("%v isn't right", k)
				}
			}
		}
	}
}

// P7.1 and P7.2: of all small triples and keys, and of those at the edges: a triple has a key just if it is one of its eight, and by its number.
func TestHas(t *testing.T) {
	had := 0
	for _, of := range [][]int{{0, 1, 2, 3, 4}, {0, 1, 10, 100, 256}, {0, 1, 2048, 4095, 4096}} {
		for _, x := range cube(of[1:]) {
			its := eight(x[0], x[1], x[2])
			for _, k := range cube(of) {
				n := slices.Index(its, k)
				if got := Has(x, k); got != (n >= 0) {
					t.Errorf("Has(%v, %v): %v", x, k, got)
				}
				if got := Number(k); n >= 0 && got != n {
					t.Errorf("Number(%v): %d; wanted %d", k, got, n)
				}
				if n >= 0 {
					had++
				}
			}
		}
	}
	if had != 3*4*4*4*8 {
		t.Errorf("%d keys are had", had)
	}
}

// P7.1: each field that differs by itself, near and far, takes the key away; a 0 there gives it back.
func TestHasOneField(t *testing.T) {
	for f := range 3 {
		for n := 1; n <= 4096; n++ {
			x := api.Triple{n, n, n}
			x[f] = 4097 - n
			for i, k := range eight(n, n, n) {
				asked := i/[]int{1, 2, 4}[f]%2 == 1
				if got := Has(x, k); got == asked {
					t.Fatalf("Has(%v, %v): %v", x, k, got)
				}
			}
		}
	}
}

// P7.1: the key that is its triple, the key that asks nothing, and keys whose fields stand in others' places.
func TestHasWhole(t *testing.T) {
	for _, x := range cube(edges()[1:]) {
		if !Has(x, x) || !Has(x, api.Triple{}) || Number(x) != 7 {
			t.Errorf("%v: its first or its last key", x)
		}
		for _, k := range []api.Triple{{x[1], x[2], x[0]}, {x[2], x[0], x[1]}, {x[1], x[0], x[2]}, {0, x[0], 0}, {0, 0, x[1]}, {x[2], 0, 0}} {
			same := true
			for f := range 3 {
				same = same && (k[f] == 0 || k[f] == x[f])
			}
			if got := Has(x, k); got != same {
				t.Errorf("Has(%v, %v): %v", x, k, got)
			}
		}
	}
	if Number(api.Triple{}) != 0 {
		t.Errorf("Number of noughts: %d", Number(api.Triple{}))
	}
}

// P7.1: the eight keys in order, unlike each other whatever fields of the triple are the same, and each of them is had.
func TestAll(t *testing.T) {
	triples := append(cube(edges()[1:]), api.Triple{7, 8, 9}, api.Triple{9, 8, 7}, api.Triple{5, 5, 5}, api.Triple{5, 5, 6}, api.Triple{5, 6, 5}, api.Triple{6, 5, 5})
	for _, x := range triples {
		all := All(x)
		if !slices.Equal(all, eight(x[0], x[1], x[2])) {
			t.Fatalf("All(%v): %v", x, all)
		}
		seen := map[api.Triple]bool{}
		for n, k := range all {
			if !Right(k) || !Has(x, k) || Number(k) != n || seen[k] {
				t.Errorf("the key %d of %v: %v", n, x, k)
			}
			seen[k] = true
		}
	}
}

// P7.1: what is answered is new each time.
func TestAllNew(t *testing.T) {
	x := api.Triple{1, 2, 3}
	first := All(x)
	for n := range first {
		first[n] = api.Triple{-7, -7, -7}
	}
	if got := All(x); !slices.Equal(got, eight(1, 2, 3)) || x != (api.Triple{1, 2, 3}) {
		t.Errorf("All(%v): %v", x, got)
	}
}

// P7.1: the number of a key hangs on nothing but which fields are 0.
func TestNumber(t *testing.T) {
	for _, k := range cube(edges()) {
		want := 0
		for f, add := range []int{1, 2, 4} {
			if k[f] > 0 {
				want += add
			}
		}
		if got := Number(k); got != want {
			t.Errorf("Number(%v): %d; wanted %d", k, got, want)
		}
	}
}

// P7.1: of what the chapter leaves out nothing is promised but an end.
func TestEnds(t *testing.T) {
	for _, k := range cube(append(wrongNumbers(), 0, 1)) {
		Has(k, k)
		Has(k, api.Triple{1, 0, 4096})
		Has(api.Triple{1, 1, 4096}, k)
		All(k)
		Number(k)
		Of([3]api.Term{{N: k[0]}, {Var: true, N: k[1]}, {N: k[2]}})
	}
}

// P7.1: texts that the chapter's words give, there and back.
func TestText(t *testing.T) {
	for s, k := range map[string]api.Triple{
		"* * *":          {0, 0, 0},
		"7 * 9":          {7, 0, 9},
		"* 1 *":          {0, 1, 0},
		"* * 4096":       {0, 0, 4096},
		"4096 * *":       {4096, 0, 0},
		"1 1 1":          {1, 1, 1},
		"4096 4096 4096": {4096, 4096, 4096},
		"10 200 3000":    {10, 200, 3000},
		"* 40 7":         {0, 40, 7},
		"12 345 *":       {12, 345, 0},
	} {
		if got, e := Text(k); got != s || e != api.OK {
			t.Errorf("Text(%v): %q, error %d; wanted %q", k, got, e, s)
		}
		if got, e := Parse(s); got != k || e != api.OK {
			t.Errorf("Parse(%q): %v, error %d; wanted %v", s, got, e, k)
		}
	}
}

// P7.1: each number as each field, there and back, and numbers of all lengths beside each other.
func TestThereAndBack(t *testing.T) {
	keys := cube([]int{0, 1, 9, 10, 11, 99, 100, 101, 999, 1000, 1001, 4095, 4096})
	for f := range 3 {
		for n := 0; n <= 4096; n++ {
			k := api.Triple{0, 10, 4096}
			k[f] = n
			keys = append(keys, k)
		}
	}
	for _, k := range keys {
		s, e := Text(k)
		if s != textOf(k) || e != api.OK {
			t.Fatalf("Text(%v): %q, error %d", k, s, e)
		}
		if got, e := Parse(s); got != k || e != api.OK {
			t.Fatalf("Parse(%q): %v, error %d", s, got, e)
		}
	}
}

// P7.1: keys that aren't right have no text.
func TestTextWrong(t *testing.T) {
	for f := range 3 {
		for _, n := range wrongNumbers() {
			for _, k := range cube([]int{0, 1, 4096, -1}) {
				k[f] = n
				if got, e := Text(k); got != "" || e != api.ErrArg {
					t.Errorf("Text(%v): %q, error %d; wanted ErrArg", k, got, e)
				}
			}
		}
	}
}

// P7.1: what is no field's text, as each field beside right ones.
func TestParseFields(t *testing.T) {
	wrong := []string{
		"", "0", "00", "-0", "+0", "-1", "+1", "-4096", "+4096", "01", "001", "04096", "00000001",
		"**", "***", "*1", "1*", "*0", "0*", "-*", "+*", "*\x00", "\x00*", "(*)", "\\*", "%", "any", "?", "_", "\uff0a", "\u2217", "x", "a", "1a", "a1",
		"0x1", "0X1", "0b1", "0o1", "1_0", "1e3", "1.0", "1.", ".1", "1,000", "\u0661", "\uff11", "\u00b9", "1\x00", "1\n", "\r1", "\xff", "1\u0301", "NaN", "Inf",
		"65537", "4294967297", "4294967296", "9223372036854775807", "9223372036854775808", "18446744073709551616", "18446744073709551617", "36893488147419103233", "99999999999999999999",
		"-9223372036854775808", "-9223372036854775809", "-18446744073709551615",
		strings.Repeat("9", 1<<16), strings.Repeat("0", 1<<16) + "1", strings.Repeat("0", 1<<16), "1" + strings.Repeat("0", 1<<16), strings.Repeat("*", 1<<16),
	}
	for n := 4097; n <= 20000; n++ {
		wrong = append(wrong, strconv.Itoa(n))
	}
	for _, s := range wrong {
		for _, other := range []string{"*", "1", "4096"} {
			refused(t, s+" "+other+" "+other)
			refused(t, other+" "+s+" "+other)
			refused(t, other+" "+other+" "+s)
		}
	}
}

// P7.1: no text at all, a blank or a field too many or too few, and other signs in a blank's place.
func TestParseBlanks(t *testing.T) {
	for _, s := range []string{"", " ", "  ", "   ", "*", "**", "***", "1", "123", "* *", "1 *", "* 1", "* * * *", "1 2 3 4", "* * *\x00", "\ufeff* * *", strings.Repeat(" ", 1<<20), strings.Repeat("* ", 1<<20) + "*"} {
		refused(t, s)
	}
	for _, k := range []string{"* * *", "1 2 3", "7 * 9", "* 4096 *"} {
		p := strings.Split(k, " ")
		for _, s := range []string{k + " ", k + "  ", " " + k, "  " + k, " " + k + " ", p[0] + "  " + p[1] + " " + p[2], p[0] + " " + p[1] + "  " + p[2], p[0] + " " + p[1], p[0] + " " + p[1] + " ", " " + p[1] + " " + p[2], p[1] + " " + p[2], p[0] + "  " + p[2], k + "\n", "\n" + k, k + "\n" + k, k + " " + k, k + strings.Repeat(" ", 1<<20)} {
			refused(t, s)
		}
		for _, blank := range []string{"", "\t", "\n", "\r", "\v", "\f", "\u00a0", "\u2003", "\u3000", "\u0085", "\x00", ",", ", ", " ,", ";", "-", "_", ".", "\t ", " \t"} {
			refused(t, p[0]+blank+p[1]+" "+p[2])
			refused(t, p[0]+" "+p[1]+blank+p[2])
			refused(t, p[0]+blank+p[1]+blank+p[2])
		}
	}
}

// P7.1: of all short texts of some signs, those are taken that are a key's text, and no others.
func TestParseAllShort(t *testing.T) {
	fields := fieldsOf()
	var grow func(s string)
	grow = func(s string) {
		wantParse(t, fields, s)
		for i := 0; i < 6 && len(s) < 7; i++ {
			grow(s + "* 014-"[i:i+1])
		}
	}
	grow("")
}

// P7.1: right texts in which a byte is another one, is gone, or has come between, and such as are cut off.
func TestParseOneByte(t *testing.T) {
	fields := fieldsOf()
	for _, s := range []string{"* * *", "7 * 9", "* 10 4096", "4096 4096 *", "1 1 1", "999 40 *"} {
		for i := range len(s) + 1 {
			for b := range 256 {
				c := string([]byte{byte(b)})
				wantParse(t, fields, s[:i]+c+s[i:])
				if i < len(s) {
					wantParse(t, fields, s[:i]+c+s[i+1:])
				}
			}
			wantParse(t, fields, s[:i])
			wantParse(t, fields, s[i:])
			wantParse(t, fields, s[:i]+s[min(i+1, len(s)):])
		}
	}
}

// P7.1: what the chapter's example says.
func TestExample(t *testing.T) {
	k := All(api.Triple{7, 8, 9})[5]
	s, e := Text(k)
	if k != (api.Triple{7, 0, 9}) || s != "7 * 9" || e != api.OK {
		t.Errorf("the key 5 of 7 8 9: %v, %q, error %d", k, s, e)
	}
}
