package term

import (
	"math"
	"testing"

	"retiary/api"
)

// oddNumbers is numbers that are neither symbols nor variables: those beside the edges, those whose lower bits are a symbol's or a variable's, and the outermost ones.
func oddNumbers() []int {
	return []int{0, -1, -2, -32, -33, -4096, -4097, 4097, 4098, 8192, 1<<16 + 1, 1<<32 + 1, 1<<32 + 32, 1<<32 + 4096, 1<<48 + 7, -1<<32 + 1, math.MaxInt32, math.MinInt32, math.MaxInt, math.MaxInt - 1, math.MinInt, math.MinInt + 1}
}

// someTerms is symbols and variables, the edges among them; some have the same number.
func someTerms() []api.Term {
	return []api.Term{
		{N: 1}, {N: 2}, {N: 32}, {N: 4096},
		{Var: true, N: 1}, {Var: true, N: 2}, {Var: true, N: 32},
	}
}

// threeOf is all ways to take three of some things, each as often as one likes.
func threeOf[T any](l []T) [][3]T {
	var all [][3]T
	for _, a := range l {
		for _, b := range l {
			for _, c := range l {
				all = append(all, [3]T{a, b, c})
			}
		}
	}
	return all
}

// someBinds is bindings in which the variables 1, 2 and 32 stand for all there is to be tried, and others for nothing or for something.
func someBinds() []Bind {
	var all []Bind
	for _, x := range threeOf([]int{0, 1, 2, 4096}) {
		for _, other := range []int{0, 7} {
			var b Bind
			for v := 1; v <= 32; v++ {
				b[v] = other
			}
			b[1], b[2], b[32] = x[0], x[1], x[2]
			all = append(all, b)
		}
	}
	return all
}

// fits tells by the document's words, but not in their order, whether terms fit: each symbol is its field, each variable that stands for something stands for its field, and two fields of one variable are alike.
func fits(l [3]api.Term, t api.Triple, b Bind) bool {
	for f, x := range l {
		if !x.Var && x.N != t[f] || x.Var && b[x.N] != 0 && b[x.N] != t[f] {
			return false
		}
		for g, y := range l {
			if x.Var && y.Var && x.N == y.N && t[f] != t[g] {
				return false
			}
		}
	}
	return true
}

// modelFit is what Fit is to answer.
func modelFit(l [3]api.Term, t api.Triple, b Bind) (Bind, bool) {
	if !fits(l, t, b) {
		return b, false
	}
	for f, x := range l {
		if x.Var {
			b[x.N] = t[f]
		}
	}
	return b, true
}

// fit wants that Fit answers a binding, and true.
func fit(t *testing.T, l [3]api.Term, x api.Triple, b, want Bind) {
	t.Helper()
	if got, ok := Fit(l, x, b); got != want || !ok {
		t.Errorf("Fit(%v, %v, %v): %v, %v; wanted %v", l, x, b, got, ok, want)
	}
}

// unfit wants that Fit answers the binding that is handed in, and false.
func unfit(t *testing.T, l [3]api.Term, x api.Triple, b Bind) {
	t.Helper()
	if got, ok := Fit(l, x, b); got != b || ok {
		t.Errorf("Fit(%v, %v, %v): %v, %v; wanted false", l, x, b, got, ok)
	}
}

// put wants that Put answers a triple, and true.
func put(t *testing.T, l [3]api.Term, b Bind, want api.Triple) {
	t.Helper()
	if got, ok := Put(l, b); got != want || !ok {
		t.Errorf("Put(%v, %v): %v, %v; wanted %v", l, b, got, ok, want)
	}
}

// unput wants that Put answers a zero triple, and false.
func unput(t *testing.T, l [3]api.Term, b Bind) {
	t.Helper()
	if got, ok := Put(l, b); got != (api.Triple{}) || ok {
		t.Errorf("Put(%v, %v): %v, %v; wanted false", l, b, got, ok)
	}
}

// bound is a binding in which those variables stand for those symbols.
func bound(pairs ...[2]int) Bind {
	var b Bind
	for _, p := range pairs {
		b[p[0]] = p[1]
	}
	return b
}

// P3.1: a symbol and a variable are of the number that is handed in, whatever that is.
func TestSymVar(t *testing.T) {
	numbers := append(oddNumbers(), 1, 2, 31, 32, 33, 34, 4095, 4096)
	for _, n := range numbers {
		if got := Sym(n); got != (api.Term{Var: false, N: n}) {
			t.Errorf("Sym(%d): %v", n, got)
		}
		if got := Var(n); got != (api.Term{Var: true, N: n}) {
			t.Errorf("Var(%d): %v", n, got)
		}
	}
}

// P3.1: each number as a symbol, and as a variable.
func TestRight(t *testing.T) {
	for n := -5000; n <= 9000; n++ {
		if got := Right(api.Term{N: n}); got != (n >= 1 && n <= 4096) {
			t.Errorf("Right of the symbol %d: %v", n, got)
		}
		if got := Right(api.Term{Var: true, N: n}); got != (n >= 1 && n <= 32) {
			t.Errorf("Right of the variable %d: %v", n, got)
		}
	}
	for _, n := range oddNumbers() {
		if Right(api.Term{N: n}) || Right(api.Term{Var: true, N: n}) {
			t.Errorf("%d is right", n)
		}
	}
	if Right(api.Term{}) {
		t.Error("a term that isn't there is right")
	}
}

// P3.1: a binding that says nothing yet has a place for each variable, and one more.
func TestBind(t *testing.T) {
	var b Bind
	if len(b) != 33 {
		t.Errorf("%d places", len(b))
	}
}

// P3.1 and P3.2: all terms, triples and bindings of some symbols and variables.
func TestFitAll(t *testing.T) {
	var triples []api.Triple
	for _, x := range threeOf([]int{1, 2, 7, 4096}) {
		triples = append(triples, x)
	}
	binds := someBinds()
	for _, l := range threeOf(someTerms()) {
		for _, x := range triples {
			for _, b := range binds {
				want, wantOk := modelFit(l, x, b)
				got, ok := Fit(l, x, b)
				if got != want || ok != wantOk {
					t.Fatalf("Fit(%v, %v, %v): %v, %v; wanted %v, %v", l, x, b, got, ok, want, wantOk)
				}
				if y, done := Put(l, got); ok && (y != x || !done) {
					t.Fatalf("Put of Fit(%v, %v, %v): %v, %v", l, x, b, y, done)
				}
				if got[0] != 0 {
					t.Fatalf("Fit(%v, %v, %v): place 0 is %d", l, x, b, got[0])
				}
			}
		}
	}
}

// P3.1: each symbol fits itself, as each field, and neither its neighbours nor another symbol; no variable stands for anything then.
func TestFitSymbols(t *testing.T) {
	for n := 1; n <= 4096; n++ {
		for f := 0; f < 3; f++ {
			l := [3]api.Term{Sym(3), Sym(3), Sym(3)}
			x := api.Triple{3, 3, 3}
			l[f], x[f] = Sym(n), n
			fit(t, l, x, Bind{}, Bind{})
			for _, other := range []int{n - 1, n + 1, 4097 - n} {
				if other >= 1 && other <= 4096 && other != n {
					x[f] = other
					unfit(t, l, x, Bind{})
				}
			}
		}
	}
}

// P3.1: each variable, free, as each field, stands for its symbol then, and no other one does.
func TestFitFree(t *testing.T) {
	for v := 1; v <= 32; v++ {
		for f := 0; f < 3; f++ {
			for _, n := range []int{1, 2, v, 4095, 4096} {
				l := [3]api.Term{Sym(5), Sym(6), Sym(7)}
				x := api.Triple{5, 6, 7}
				l[f], x[f] = Var(v), n
				fit(t, l, x, Bind{}, bound([2]int{v, n}))
			}
		}
	}
}

// P3.1: each variable that stands for something fits that alone; what others stand for plays no part, and stays.
func TestFitBound(t *testing.T) {
	var b Bind
	for v := 1; v <= 32; v++ {
		b[v] = 128 * v
	}
	for v := 1; v <= 32; v++ {
		for f := 0; f < 3; f++ {
			l := [3]api.Term{Sym(5), Sym(6), Sym(7)}
			x := api.Triple{5, 6, 7}
			l[f], x[f] = Var(v), 128*v
			fit(t, l, x, b, b)
			for _, n := range []int{1, v, 128*v - 1, 128*v + 1, 128 * (33 - v)} {
				if n <= 4096 {
					x[f] = n
					unfit(t, l, x, b)
				}
			}
		}
	}
}

// P3.1: a variable that stands twice, or three times, in the terms stands for one symbol.
func TestFitTwice(t *testing.T) {
	for _, v := range []int{1, 2, 31, 32} {
		for f := 0; f < 3; f++ {
			g, h := (f+1)%3, (f+2)%3
			var l [3]api.Term
			l[f], l[g], l[h] = Var(v), Var(v), Sym(8)
			var x api.Triple
			x[f], x[g], x[h] = 4, 4, 8
			fit(t, l, x, Bind{}, bound([2]int{v, 4}))
			fit(t, l, x, bound([2]int{v, 4}), bound([2]int{v, 4}))
			unfit(t, l, x, bound([2]int{v, 8}))
			x[g] = 5
			unfit(t, l, x, Bind{})
			unfit(t, l, x, bound([2]int{v, 4}))
			unfit(t, l, x, bound([2]int{v, 5}))
		}
		l := [3]api.Term{Var(v), Var(v), Var(v)}
		fit(t, l, api.Triple{4096, 4096, 4096}, Bind{}, bound([2]int{v, 4096}))
		fit(t, l, api.Triple{1, 1, 1}, bound([2]int{v, 1}), bound([2]int{v, 1}))
		for _, x := range []api.Triple{{4, 4, 5}, {4, 5, 4}, {5, 4, 4}, {4, 5, 6}} {
			unfit(t, l, x, Bind{})
			unfit(t, l, x, bound([2]int{v, 4}))
		}
		unfit(t, l, api.Triple{4, 4, 4}, bound([2]int{v, 5}))
	}
}

// P3.1: two variables may stand for one symbol.
func TestFitTwoVariables(t *testing.T) {
	l := [3]api.Term{Var(1), Var(2), Var(3)}
	fit(t, l, api.Triple{9, 9, 9}, Bind{}, bound([2]int{1, 9}, [2]int{2, 9}, [2]int{3, 9}))
	fit(t, l, api.Triple{9, 8, 9}, bound([2]int{3, 9}, [2]int{4, 2}), bound([2]int{1, 9}, [2]int{2, 8}, [2]int{3, 9}, [2]int{4, 2}))
}

// P3.1: a symbol and a variable of one number have nothing to do with each other.
func TestFitOneNumber(t *testing.T) {
	l := [3]api.Term{Sym(5), Var(5), Sym(5)}
	fit(t, l, api.Triple{5, 9, 5}, Bind{}, bound([2]int{5, 9}))
	fit(t, l, api.Triple{5, 9, 5}, bound([2]int{5, 9}), bound([2]int{5, 9}))
	unfit(t, l, api.Triple{9, 9, 5}, bound([2]int{5, 9}))
	unfit(t, l, api.Triple{9, 9, 9}, bound([2]int{5, 9}))
}

// P3.1: whichever field doesn't fit, the binding comes back as it was handed in, though fields ahead of it have fitted.
func TestFitTakesBack(t *testing.T) {
	for f := 0; f < 3; f++ {
		l := [3]api.Term{Var(1), Var(2), Var(3)}
		l[f] = Sym(9)
		unfit(t, l, api.Triple{4, 5, 6}, Bind{})
		unfit(t, l, api.Triple{4, 5, 6}, bound([2]int{7, 7}))
		l[f] = Var(32)
		unfit(t, l, api.Triple{4, 5, 6}, bound([2]int{32, 9}))
	}
}

// P3.1: Put, by what each term stands for.
func TestPutAll(t *testing.T) {
	binds := someBinds()
	for _, l := range threeOf(someTerms()) {
		for _, b := range binds {
			var want api.Triple
			wantOk := true
			for f, x := range l {
				want[f] = x.N
				if x.Var {
					want[f] = b[x.N]
				}
				wantOk = wantOk && want[f] != 0
			}
			if !wantOk {
				want = api.Triple{}
			}
			if got, ok := Put(l, b); got != want || ok != wantOk {
				t.Fatalf("Put(%v, %v): %v, %v; wanted %v, %v", l, b, got, ok, want, wantOk)
			}
		}
	}
}

// P3.1: each symbol and each variable is put, as each field; a variable that stands for nothing isn't, whichever field it is.
func TestPut(t *testing.T) {
	for f := 0; f < 3; f++ {
		for n := 1; n <= 4096; n++ {
			l := [3]api.Term{Sym(1), Sym(4096), Sym(3)}
			want := api.Triple{1, 4096, 3}
			l[f], want[f] = Sym(n), n
			put(t, l, Bind{}, want)
		}
		for v := 1; v <= 32; v++ {
			l := [3]api.Term{Sym(1), Sym(4096), Sym(3)}
			want := api.Triple{1, 4096, 3}
			l[f], want[f] = Var(v), 4096-v
			put(t, l, bound([2]int{v, 4096 - v}), want)

			var others Bind
			for w := 1; w <= 32; w++ {
				others[w] = w
			}
			others[v] = 0
			unput(t, l, Bind{})
			unput(t, l, others)
		}
	}
}

// P3.1: a variable that stands twice, or three times, is put as often.
func TestPutTwice(t *testing.T) {
	b := bound([2]int{32, 6}, [2]int{1, 4096})
	put(t, [3]api.Term{Var(32), Var(32), Var(32)}, b, api.Triple{6, 6, 6})
	put(t, [3]api.Term{Var(32), Var(1), Var(32)}, b, api.Triple{6, 4096, 6})
	unput(t, [3]api.Term{Var(32), Var(2), Var(32)}, b)
	unput(t, [3]api.Term{Var(2), Var(2), Var(2)}, b)
}

// P3.2: with each variable at each field, free and bound, what fits is put.
func TestFitIsPut(t *testing.T) {
	for _, x := range []api.Triple{{1, 1, 1}, {4096, 4096, 4096}, {1, 2, 3}, {7, 4096, 7}} {
		for v := 1; v <= 32; v++ {
			w := 33 - v
			for _, l := range [][3]api.Term{
				{Var(v), Sym(x[1]), Sym(x[2])},
				{Sym(x[0]), Var(v), Var(w)},
				{Var(v), Sym(x[1]), Var(w)},
				{Var(v), Var(w), Var(v%32 + 1)},
				{Sym(x[0]), Sym(x[1]), Sym(x[2])},
			} {
				b, ok := Fit(l, x, Bind{})
				// Two of the variables may be one.
				if ok != fits(l, x, Bind{}) {
					t.Errorf("Fit(%v, %v): %v", l, x, ok)
				}
				if ok {
					put(t, l, b, x)
					fit(t, l, x, b, b)
				}
			}
		}
	}
}

// wantVars wants that Vars answers those.
func wantVars(t *testing.T, l [3]api.Term, want ...int) {
	t.Helper()
	got := Vars(l)
	if len(got) != len(want) {
		t.Fatalf("Vars(%v): %v; wanted %v", l, got, want)
	}
	for i := range want {
		if got[i] != want[i] {
			t.Fatalf("Vars(%v): %v; wanted %v", l, got, want)
		}
	}
}

// P3.1: of all terms of some symbols and variables, each variable once, rising.
func TestVarsAll(t *testing.T) {
	for _, l := range threeOf(someTerms()) {
		var want []int
		for v := 1; v <= 32; v++ {
			if l[0] == Var(v) || l[1] == Var(v) || l[2] == Var(v) {
				want = append(want, v)
			}
		}
		wantVars(t, l, want...)
	}
}

// P3.1: by numbers, not as texts; none of symbols; one of a variable that stands three times.
func TestVars(t *testing.T) {
	wantVars(t, [3]api.Term{Var(32), Var(9), Var(10)}, 9, 10, 32)
	wantVars(t, [3]api.Term{Var(9), Var(2), Var(9)}, 2, 9)
	wantVars(t, [3]api.Term{Var(2), Var(9), Var(9)}, 2, 9)
	wantVars(t, [3]api.Term{Sym(9), Var(2), Sym(2)}, 2)
	wantVars(t, [3]api.Term{Sym(1), Sym(2), Sym(4096)})
	for v := 1; v <= 32; v++ {
		wantVars(t, [3]api.Term{Var(v), Var(v), Var(v)}, v)
	}
}

// P3.1: no two answers share memory.
func TestVarsSharesNothing(t *testing.T) {
	l := [3]api.Term{Var(3), Var(1), Var(2)}
	first := Vars(l)
	for i := range first {
		first[i] = -7
	}
	wantVars(t, l, 1, 2, 3)
}

// What the chapter leaves out ends, and doesn't panic: wrong terms, triples that aren't right, bindings of other numbers.
func TestLeftOut(t *testing.T) {
	numbers := append(oddNumbers(), 1, 33, 34)
	for _, n := range numbers {
		for f := 0; f < 3; f++ {
			for _, x := range []api.Term{Sym(n), Var(n)} {
				l := [3]api.Term{Var(1), Sym(2), Var(1)}
				l[f] = x
				Fit(l, api.Triple{n, 2, n}, Bind{})
				Fit(l, api.Triple{1, 2, 3}, bound([2]int{0, n}, [2]int{1, n}))
				Put(l, Bind{})
				Put(l, bound([2]int{0, n}, [2]int{1, n}))
				Vars(l)
			}
		}
	}
}

// P3.1: what the example of the chapter says.
func TestExample(t *testing.T) {
	const x, on = 1, 2
	l := [3]api.Term{Var(x), Sym(on), Var(x)}
	fit(t, l, api.Triple{5, 2, 5}, Bind{}, bound([2]int{x, 5}))
	put(t, l, bound([2]int{x, 5}), api.Triple{5, 2, 5})
}
