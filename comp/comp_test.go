package comp

import (
	"fmt"
	"math"
	"slices"
	"strings"
	"testing"

	"retiary/api"
)

// sy and vr are a symbol and a variable.
func sy(n int) api.Term { return api.Term{N: n} }
func vr(n int) api.Term { return api.Term{Var: true, N: n} }

// The variables and the symbol of most of the tests.
var x, y, z, on = vr(1), vr(2), vr(3), sy(7)

// pos, neg and ncc are conditions of those kinds.
func pos(a, b, c api.Term) api.Cond      { return api.Cond{Kind: api.Pos, T: [3]api.Term{a, b, c}} }
func neg(a, b, c api.Term) api.Cond      { return api.Cond{Kind: api.Neg, T: [3]api.Term{a, b, c}} }
func ncc(subs ...api.Cond) api.Cond      { return api.Cond{Kind: api.Ncc, Subs: subs} }
func list(l ...api.Cond) []api.Cond      { return l }
func times(n int, c api.Cond) []api.Cond { return slices.Repeat(list(c), n) }

// is, no and not are steps of those kinds: Pos, Neg, Ncc.
func is(k api.Triple, tests ...api.Test) api.Step {
	return api.Step{Kind: api.Pos, Key: k, Tests: tests}
}
func no(k api.Triple, tests ...api.Test) api.Step {
	return api.Step{Kind: api.Neg, Key: k, Tests: tests}
}
func not(subs ...api.Step) api.Step { return api.Step{Kind: api.Ncc, Subs: subs} }

// plus is so many times a step.
func plus(n int, s api.Step) []api.Step { return slices.Repeat([]api.Step{s}, n) }

// p and n are a Pos and a Neg step that is known by its number.
func p(i int) api.Step { return is(api.Triple{i, i, i}) }
func n(i int) api.Step { return no(api.Triple{i, i, i}) }

// of is a test.
func of(field, back, other int) api.Test { return api.Test{Field: field, Back: back, Other: other} }

// text is all that steps are, as a text: two lists are alike if their texts are.
func text(l []api.Step) string {
	var b strings.Builder
	for _, s := range l {
		fmt.Fprint(&b, " ", s.Kind, s.Key, s.Tests, "(", text(s.Subs), ")")
	}
	return b.String()
}

// condText is all that conditions are, as a text.
func condText(l []api.Cond) string {
	var b strings.Builder
	for _, c := range l {
		fmt.Fprint(&b, " ", c.Kind, c.T, "(", condText(c.Subs), ")")
	}
	return b.String()
}

// short is steps by their numbers: p1, n1; of an Ncc those in it, in brackets.
func short(l []api.Step) string {
	var all []string
	for _, s := range l {
		switch s.Kind {
		case api.Pos:
			all = append(all, fmt.Sprint("p", s.Key[0]))
		case api.Neg:
			all = append(all, fmt.Sprint("n", s.Key[0]))
		default:
			all = append(all, "("+short(s.Subs)+")")
		}
	}
	return strings.Join(all, " ")
}

// model is what is known ahead of a condition: how many Pos there are, and the Back and Other of each variable that is bound.
type model struct {
	pos   int
	bound map[api.Term][2]int
}

// step is what the step of a condition is to be.
func (m model) step(c api.Cond) api.Step {
	if c.Kind == api.Ncc {
		return not(m.steps(c.Subs)...)
	}
	want := api.Step{Kind: c.Kind}
	here := map[api.Term][2]int{}
	for f, t := range c.T {
		if !t.Var {
			want.Key[f] = t.N
			continue
		}
		at, ok := m.bound[t]
		if !ok {
			at, ok = here[t]
		}
		if ok {
			want.Tests = append(want.Tests, of(f, at[0], at[1]))
		} else {
			here[t] = [2]int{-1, f}
		}
	}
	return want
}

// behind is what is known behind a condition.
func (m model) behind(c api.Cond) model {
	if c.Kind != api.Pos {
		return m
	}
	next := model{m.pos + 1, map[api.Term][2]int{}}
	for f := 2; f >= 0; f-- {
		next.bound[c.T[f]] = [2]int{m.pos, f}
	}
	for t, at := range m.bound {
		next.bound[t] = at
	}
	return next
}

// steps is what the steps of conditions are to be, one behind the other.
func (m model) steps(l []api.Cond) []api.Step {
	var want []api.Step
	for _, c := range l {
		want = append(want, m.step(c))
		m = m.behind(c)
	}
	return want
}

// wantSteps wants that those are the steps of conditions, compiled and one by one, and that they are right.
func wantSteps(t *testing.T, l []api.Cond, want ...api.Step) {
	t.Helper()
	got := Compile(l)
	if text(got) != text(want) {
		t.Errorf("Compile(%s): %s; wanted %s", condText(l), text(got), text(want))
		return
	}
	for i, s := range got {
		if !Right(s) {
			t.Errorf("Compile(%s): step %d isn't right", condText(l), i)
		}
		if one := Step(l[:i], l[i]); text([]api.Step{one}) != text(want[i:i+1]) {
			t.Errorf("Step(%s; %s): %s; wanted %s", condText(l[:i]), condText(l[i:i+1]), text([]api.Step{one}), text(want[i:i+1]))
		}
	}
}

// wantModel wants of conditions what the model says, and the same of conditions whose variables have other names.
func wantModel(t *testing.T, l []api.Cond) {
	t.Helper()
	want := model{}.steps(l)
	wantSteps(t, l, want...)
	for i, turn := range turns() {
		if got := Compile(renamed(l, turn)); text(got) != text(want) {
			t.Errorf("Compile(%s) with the names turned the way %d: %s; wanted %s", condText(l), i, text(got), text(want))
		}
	}
}

// turns is ways to give each variable another name, one for one.
func turns() []func(v int) int {
	return []func(v int) int{
		func(v int) int { return 33 - v },
		func(v int) int { return v%32 + 1 },
		func(v int) int { return v*7%33%32 + 1 },
	}
}

// renamed is the same conditions with other names of variables.
func renamed(l []api.Cond, turn func(v int) int) []api.Cond {
	var out []api.Cond
	for _, c := range l {
		for f, t := range c.T {
			if t.Var {
				c.T[f].N = turn(t.N)
			}
		}
		c.Subs = renamed(c.Subs, turn)
		out = append(out, c)
	}
	return out
}

// forests is all lists of n conditions in all, at a depth; those without Subs have no terms yet.
func forests(n, depth int) [][]api.Cond {
	if n == 0 {
		return [][]api.Cond{nil}
	}
	var all [][]api.Cond
	for k := 1; k <= n; k++ {
		var heads []api.Cond
		if k == 1 {
			heads = list(api.Cond{Kind: api.Pos})
		} else if depth < 3 {
			for _, subs := range forests(k-1, depth+1) {
				heads = append(heads, ncc(subs...))
			}
		}
		for _, h := range heads {
			for _, rest := range forests(n-k, depth) {
				all = append(all, append(list(h), rest...))
			}
		}
	}
	return all
}

// fill is the same conditions; what has no Subs is what next answers, as it is written.
func fill(l []api.Cond, next func() api.Cond) []api.Cond {
	var out []api.Cond
	for _, c := range l {
		if c.Kind == api.Ncc {
			out = append(out, ncc(fill(c.Subs, next)...))
		} else {
			out = append(out, next())
		}
	}
	return out
}

// samples is conditions without Subs: of symbols, of variables, of both; some of them with one variable twice or three times.
func samples() []api.Cond {
	return list(pos(x, on, y), neg(y, on, x), pos(z, y, z), pos(on, on, sy(4096)), neg(x, z, z), pos(x, x, x), neg(z, x, y), pos(y, z, on), neg(sy(1), sy(2), sy(3)), neg(y, y, y))
}

// P8.3: the turns give each variable another name, and no two of them the same.
func TestTurnsAreTurns(t *testing.T) {
	for i, turn := range turns() {
		var seen [33]bool
		for v := 1; v <= 32; v++ {
			to := turn(v)
			if to < 1 || to > 32 || seen[to] {
				t.Fatalf("way %d: %d is called %d", i, v, to)
			}
			seen[to] = true
		}
	}
}

// P8.1, P8.2, P8.3: each mixture of three fields, alone, behind a Pos that binds one variable, and in Nccs behind it.
func TestEachTerms(t *testing.T) {
	terms := []api.Term{x, y, z, vr(32), sy(1), sy(2), sy(4096)}
	for _, a := range terms {
		for _, b := range terms {
			for _, c := range terms {
				for _, kind := range []func(a, b, c api.Term) api.Cond{pos, neg} {
					d := kind(a, b, c)
					wantModel(t, list(d))
					wantModel(t, list(pos(on, x, on), d))
					wantModel(t, list(pos(on, x, on), pos(y, x, y), d, d))
					wantModel(t, list(pos(z, x, on), ncc(pos(y, z, on), d, ncc(d))))
				}
			}
		}
	}
}

// P8.1, P8.2, P8.3: all forms of up to three conditions with all samples, and greater ones with some of them.
func TestAllForms(t *testing.T) {
	all := samples()
	for size := 0; size <= 3; size++ {
		for _, f := range forests(size, 1) {
			for k := range len(all) * len(all) * len(all) {
				rest := k
				wantModel(t, fill(f, func() api.Cond {
					c := all[rest%len(all)]
					rest /= len(all)
					return c
				}))
			}
		}
	}
	for size := 4; size <= 7; size++ {
		for i, f := range forests(size, 1) {
			for k := range 20 {
				at := i + k
				wantModel(t, fill(f, func() api.Cond {
					at = (at*5 + k + 3) % 1009
					return all[at%len(all)]
				}))
			}
		}
	}
}

// P8.1: no conditions have no steps; one has one.
func TestNoneAndOne(t *testing.T) {
	for _, l := range [][]api.Cond{nil, {}, make([]api.Cond, 0, 4)} {
		wantSteps(t, l)
	}
	wantSteps(t, list(pos(sy(3), sy(2), sy(4096))), is(api.Triple{3, 2, 4096}))
	wantSteps(t, list(neg(sy(3), sy(2), sy(4096))), no(api.Triple{3, 2, 4096}))
	wantSteps(t, list(pos(x, y, z)), is(api.Triple{}))
	wantSteps(t, list(neg(z, x, y)), no(api.Triple{}))
	wantSteps(t, list(ncc(pos(x, on, y))), not(is(api.Triple{0, 7, 0})))
	wantSteps(t, list(ncc(ncc(neg(x, on, x)))), not(not(no(api.Triple{0, 7, 0}, of(2, -1, 0)))))
	wantSteps(t, list(ncc(neg(on, x, x))), not(no(api.Triple{7, 0, 0}, of(2, -1, 1))))
}

// P8.1: a variable that stands several times in one condition: if it isn't bound, each place but the first one is held against the first one; if it is, each against where it is bound.
func TestSeveralTimes(t *testing.T) {
	wantSteps(t, list(pos(x, x, x)), is(api.Triple{}, of(1, -1, 0), of(2, -1, 0)))
	wantSteps(t, list(neg(y, x, x)), no(api.Triple{}, of(2, -1, 1)))
	wantSteps(t, list(pos(x, x, y)), is(api.Triple{}, of(1, -1, 0)))
	wantSteps(t, list(neg(x, y, x)), no(api.Triple{}, of(2, -1, 0)))
	wantSteps(t, list(pos(on, on, x), neg(x, x, x)), is(api.Triple{7, 7, 0}), no(api.Triple{}, of(0, 0, 2), of(1, 0, 2), of(2, 0, 2)))
	wantSteps(t, list(pos(y, x, x), pos(x, y, x)), is(api.Triple{}, of(2, -1, 1)), is(api.Triple{}, of(0, 0, 1), of(1, 0, 0), of(2, 0, 1)))
	// One that is bound, beside one that isn't.
	wantSteps(t, list(pos(x, on, on), pos(y, x, y)), is(api.Triple{0, 7, 7}), is(api.Triple{}, of(1, 0, 0), of(2, -1, 0)))
	// A symbol of a variable's number is another thing.
	wantSteps(t, list(pos(x, sy(1), x), neg(sy(1), sy(2), y)), is(api.Triple{0, 1, 0}, of(2, -1, 0)), no(api.Triple{1, 2, 0}))
}

// P8.1: of several places where a variable might be bound the first one is told, and Pos alone count.
func TestWhereBound(t *testing.T) {
	k := api.Triple{}
	wantSteps(t, list(pos(on, on, x), pos(x, on, y), neg(z, z, x), pos(y, z, x), neg(y, x, z)),
		is(api.Triple{7, 7, 0}),
		is(api.Triple{0, 7, 0}, of(0, 0, 2)),
		no(k, of(1, -1, 0), of(2, 0, 2)),
		is(k, of(0, 1, 2), of(2, 0, 2)),
		no(k, of(0, 1, 2), of(1, 0, 2), of(2, 2, 1)))
	// In a Neg ahead, it isn't bound.
	wantSteps(t, list(neg(x, y, on), pos(y, on, x), pos(x, y, on)),
		no(api.Triple{0, 0, 7}), is(api.Triple{0, 7, 0}), is(api.Triple{0, 0, 7}, of(0, 0, 2), of(1, 0, 0)))
	// In an Ncc's own conditions ahead, it isn't bound either; behind it in that Ncc it is, and its Pos count there alone.
	wantSteps(t, list(ncc(pos(x, on, y), pos(y, on, z), neg(z, y, x)), pos(z, x, x), neg(y, z, x)),
		not(is(api.Triple{0, 7, 0}), is(api.Triple{0, 7, 0}, of(0, 0, 2)), no(k, of(0, 1, 2), of(1, 0, 2), of(2, 0, 0))),
		is(k, of(2, -1, 1)), no(k, of(1, 0, 0), of(2, 0, 1)))
	wantSteps(t, list(pos(on, x, on), ncc(pos(x, on, y), ncc(pos(z, x, y), neg(y, z, x)), pos(z, y, z)), pos(z, y, x)),
		is(api.Triple{7, 0, 7}),
		not(is(api.Triple{0, 7, 0}, of(0, 0, 1)),
			not(is(k, of(1, 0, 1), of(2, 1, 2)), no(k, of(0, 1, 2), of(1, 2, 0), of(2, 0, 1))),
			is(k, of(1, 1, 2), of(2, -1, 0))),
		is(k, of(2, 0, 1)))
}

// P8.1: each variable, bound in each field of each Pos, and asked in each field.
func TestEachPlace(t *testing.T) {
	for v := 1; v <= 32; v++ {
		for back := range 15 {
			for other := range 3 {
				l := times(16, pos(sy(v), sy(v), sy(v)))
				l[back].T[other] = vr(v)
				l[15] = neg(sy(v), sy(v), sy(v))
				want := plus(16, p(v))
				want[back].Key[other] = 0
				for field := range 3 {
					l[15].T, want[15] = [3]api.Term{sy(v), sy(v), sy(v)}, n(v)
					l[15].T[field], want[15].Key[field] = vr(v), 0
					want[15].Tests = []api.Test{of(field, back, other)}
					wantSteps(t, l, want...)
				}
			}
		}
	}
}

// P8.1, P8.2: 16 conditions, in forms that have so many; more of them nobody asks for.
func TestMost(t *testing.T) {
	l := times(15, pos(x, on, x))
	lists := [][]api.Cond{
		append(l, neg(x, x, y)),
		times(16, neg(x, x, x)),
		list(ncc(l...)),
		list(ncc(ncc(append(l[:13:13], neg(y, x, x))...))),
		list(ncc(append(l[:12:12], ncc(neg(x, y, y)), pos(y, x, y))...)),
		append(l[:8:8], slices.Repeat(list(ncc(pos(x, y, z))), 4)...),
		list(ncc(times(7, ncc(pos(x, x, y)))...), pos(x, y, z)),
	}
	for _, l := range lists {
		if len(Compile(l)) != len(l) {
			t.Errorf("Compile(%s): %s", condText(l), text(Compile(l)))
		}
		wantModel(t, l)
	}
	// The greatest Back that a step may have here.
	far := append(times(14, pos(on, on, on)), pos(on, on, x), neg(x, on, on))
	if s := Compile(far)[15]; !slices.Equal(s.Tests, []api.Test{of(0, 14, 2)}) {
		t.Errorf("Compile(%s): %s", condText(far), text([]api.Step{s}))
	}
}

// P8.1: the step of a condition behind the chains that Nccs go through; these may be Nccs, too.
func TestStepBehind(t *testing.T) {
	in := ncc(pos(y, z, on), ncc(pos(z, x, y)))
	chain := list(pos(on, x, x), in, neg(x, y, z), pos(x, y, on))
	c := ncc(neg(y, z, x), pos(z, z, y), ncc(neg(z, y, x)))
	want := not(
		no(api.Triple{}, of(0, 1, 1), of(2, 0, 1)),
		is(api.Triple{}, of(1, -1, 0), of(2, 1, 1)),
		not(no(api.Triple{}, of(0, 2, 0), of(1, 1, 1), of(2, 0, 1))))
	if got := Step(chain, c); text([]api.Step{got}) != text([]api.Step{want}) {
		t.Errorf("Step: %s; wanted %s", text([]api.Step{got}), text([]api.Step{want}))
	}
	if got := Step(nil, pos(x, y, x)); text([]api.Step{got}) != text([]api.Step{is(api.Triple{}, of(2, -1, 0))}) {
		t.Errorf("Step behind nothing: %s", text([]api.Step{got}))
	}
}

// P8.3: names of variables that aren't one for one do matter.
func TestNotOneForOne(t *testing.T) {
	if text(Compile(list(pos(x, on, y), neg(y, on, x)))) == text(Compile(list(pos(x, on, y), neg(y, on, y)))) {
		t.Error("two variables are as good as one")
	}
	if text(Compile(list(pos(x, on, y)))) == text(Compile(list(pos(x, on, x)))) {
		t.Error("two variables are as good as one in a Pos")
	}
}

// P8.1: what the example of the chapter says.
func TestExample(t *testing.T) {
	wantSteps(t, list(pos(x, on, y), pos(y, on, x)), is(api.Triple{0, 7, 0}), is(api.Triple{0, 7, 0}, of(0, 0, 2), of(2, 0, 0)))
}

// wantRight wants that a step is right, or that it isn't, and so in an Ncc at each depth.
func wantRight(t *testing.T, s api.Step, want bool) {
	t.Helper()
	for _, in := range []api.Step{s, not(s), not(p(1), s), not(s, n(2)), not(not(s)), not(p(1), not(n(2), s, p(3)))} {
		if got := Right(in); got != want {
			t.Errorf("Right(%s): %v", text([]api.Step{in}), got)
		}
	}
}

// P8.1: three kinds there are, and no others.
func TestRightKind(t *testing.T) {
	for k := -300; k <= 300; k++ {
		wantRight(t, api.Step{Kind: k}, k == 1 || k == 2)
		for _, in := range []api.Step{{Kind: k, Subs: plus(1, p(1))}, not(api.Step{Kind: k, Subs: plus(1, p(1))})} {
			if got := Right(in); got != (k == 3) {
				t.Errorf("Right(%s): %v", text([]api.Step{in}), got)
			}
		}
	}
	for _, k := range []int{math.MinInt, math.MaxInt, 1<<8 + 1, 1<<32 + 1, 1<<32 + 2, 1<<32 + 3} {
		wantRight(t, api.Step{Kind: k}, false)
		wantRight(t, api.Step{Kind: k, Subs: plus(1, p(1))}, false)
	}
}

// P8.1: each field of a Pos's or a Neg's key is from 0 to 4096; an Ncc's are 0.
func TestRightKey(t *testing.T) {
	for f := range 3 {
		for _, num := range []int{math.MinInt, -1 << 32, -4096, -2, -1, 0, 1, 2, 4095, 4096, 4097, 4098, 1 << 32, 1<<32 + 1, math.MaxInt} {
			k := api.Triple{0, 1, 4096}
			k[f] = num
			wantRight(t, is(k), num >= 0 && num <= 4096)
			wantRight(t, no(k), num >= 0 && num <= 4096)
			s := not(p(1))
			s.Key[f] = num
			if got := Right(s); got != (num == 0) {
				t.Errorf("Right(%s): %v", text([]api.Step{s}), got)
			}
			if got := Right(not(p(1), s)); got != (num == 0) {
				t.Errorf("Right(%s): %v", text([]api.Step{not(p(1), s)}), got)
			}
		}
	}
}

// P8.1: each test near the limits and far beyond them, alone and between two others.
func TestRightTest(t *testing.T) {
	numbers := []int{math.MinInt, -1 << 32, -2, -1, 0, 1, 2, 3, 4, 14, 15, 16, 17, 1 << 32, 1<<32 + 1, math.MaxInt}
	for _, field := range numbers {
		for _, back := range numbers {
			for _, other := range numbers {
				want := field >= 0 && field <= 2 && back >= -1 && back <= 15 && other >= 0 && other <= 2
				if back == -1 && other >= field {
					want = false
				}
				wantRight(t, is(api.Triple{}, of(field, back, other)), want)
				wantRight(t, no(api.Triple{1, 2, 4096}, of(field, back, other)), want)
				wantRight(t, no(api.Triple{}, of(0, 15, 2), of(field, back, other), of(2, 0, 0)), want && field == 1)
			}
		}
	}
}

// P8.1: tests rise by Field, and so are three at most.
func TestRightTestsRise(t *testing.T) {
	for a := range 3 {
		wantRight(t, is(api.Triple{}, of(a, 0, 0)), true)
		for b := range 3 {
			wantRight(t, is(api.Triple{}, of(a, 0, 1), of(b, 3, 2)), a < b)
			for c := range 3 {
				wantRight(t, no(api.Triple{}, of(a, 9, 2), of(b, 3, 1), of(c, 0, 0)), a < b && b < c)
				for d := range 3 {
					wantRight(t, no(api.Triple{}, of(a, 9, 2), of(b, 3, 1), of(c, 0, 0), of(d, 4, 0)), false)
				}
			}
		}
	}
	wantRight(t, is(api.Triple{}, of(1, -1, 0), of(2, -1, 1)), true)
	wantRight(t, is(api.Triple{}, of(1, 0, 0), of(1, 0, 1)), false)
	// A test may be of a field in which the key has a symbol.
	wantRight(t, is(api.Triple{1, 2, 3}, of(0, 0, 0), of(1, -1, 0), of(2, -1, 0)), true)
}

// P8.1: a Pos and a Neg have no Subs, an Ncc has some, and no tests; an empty list is none.
func TestRightLists(t *testing.T) {
	for _, kind := range []int{api.Pos, api.Neg} {
		wantRight(t, api.Step{Kind: kind, Tests: []api.Test{}, Subs: []api.Step{}}, true)
		wantRight(t, api.Step{Kind: kind, Tests: make([]api.Test, 0, 3), Subs: make([]api.Step, 0, 3)}, true)
		for _, subs := range [][]api.Step{{p(1)}, {{}}, {not(p(1))}, {p(1), n(2)}} {
			wantRight(t, api.Step{Kind: kind, Subs: subs}, false)
		}
	}
	wantRight(t, not(), false)
	wantRight(t, api.Step{Kind: api.Ncc, Subs: make([]api.Step, 0, 3)}, false)
	for _, tests := range [][]api.Test{{of(1, -1, 0)}, {of(0, 0, 0)}, {{}}, {of(9, 9, 9)}} {
		s := not(p(1))
		s.Tests = tests
		wantRight(t, s, false)
	}
	s := not(p(1))
	s.Tests = []api.Test{}
	if !Right(s) || !Right(not(s)) {
		t.Error("an empty list isn't no list")
	}
}

// P8.1: three deep may be, four may not, whichever Sub it is.
func TestRightDeep(t *testing.T) {
	for _, x := range []struct {
		s    api.Step
		want bool
	}{
		{p(1), true}, {not(n(1)), true}, {not(not(p(1))), true}, {not(not(not(p(1)))), false}, {not(not(not(not(p(1))))), false},
		{not(p(1), not(p(2), n(3)), p(4), not(n(5))), true},
		{not(p(1), not(p(2)), not(p(3), not(p(4)))), false},
		{not(not(not(p(1))), p(2)), false},
		{not(not()), false}, {not(not(not())), false},
		{not(p(1), not(p(2), api.Step{})), false},
	} {
		if got := Right(x.s); got != x.want {
			t.Errorf("Right(%s): %v", text([]api.Step{x.s}), got)
		}
	}
}

// P8.1: 16 in all may be, 17 may not, however they stand.
func TestRightMany(t *testing.T) {
	for num := 1; num <= 40; num++ {
		for _, x := range []struct {
			s    api.Step
			size int
		}{
			{not(plus(num, p(1))...), 1 + num},
			{not(not(plus(num, n(1))...)), 2 + num},
			{not(append(plus(num, n(1)), not(p(1), p(2)))...), 4 + num},
			{not(plus(num, not(p(1)))...), 1 + 2*num},
			{not(append(plus(num, not(p(1))), p(2))...), 2 + 2*num},
			{not(not(p(1), n(2)), not(plus(num, p(3))...), p(4)), 6 + num},
		} {
			if got := Right(x.s); got != (x.size <= 16) {
				t.Errorf("Right of %d in all: %v", x.size, got)
			}
		}
	}
}

// P8.1: steps with no end, and such as nobody could go through one by one, aren't right.
func TestRightEnds(t *testing.T) {
	self := make([]api.Step, 2)
	self[0], self[1] = not(self...), not(self...)
	wide := plus(100_000, p(1))
	wider := plus(100_000, not(wide...))
	deep := p(1)
	for range 100 {
		deep = not(deep, deep)
	}
	wrong := []api.Step{{Kind: api.Pos}, {Kind: api.Neg}}
	wrong[0].Subs, wrong[1].Subs = wrong, wrong
	for i, s := range []api.Step{self[0], not(p(1), self[1]), not(wide...), not(wider...), not(not(wide...)), deep, wrong[0], not(wrong...), {Kind: api.Pos, Subs: wide}, is(api.Triple{}, make([]api.Test, 100_000)...)} {
		if Right(s) {
			t.Errorf("the step %d is right", i)
		}
		if Same(s, s) || Chains([]api.Step{s}) != nil {
			t.Errorf("the step %d is asked", i)
		}
	}
}

// variants is right steps, each of which differs from the one by one thing: a field of the key, a field of a test, one test or one Sub more or less or another one.
func variants(s api.Step) []api.Step {
	var all []api.Step
	add := func(change func(s *api.Step)) {
		v := s
		v.Tests, v.Subs = slices.Clone(s.Tests), slices.Clone(s.Subs)
		change(&v)
		all = append(all, v)
	}
	if s.Kind == api.Ncc {
		for i, sub := range s.Subs {
			for _, v := range variants(sub) {
				add(func(s *api.Step) { s.Subs[i] = v })
			}
			add(func(s *api.Step) { s.Subs = slices.Delete(s.Subs, i, i+1) })
			add(func(s *api.Step) { s.Subs = slices.Insert(s.Subs, i, sub) })
			add(func(s *api.Step) { s.Subs[i] = p(9) })
			add(func(s *api.Step) { s.Subs[i] = not(sub) })
			add(func(s *api.Step) { s.Subs[0], s.Subs[i] = s.Subs[i], s.Subs[0] })
		}
		add(func(s *api.Step) { s.Subs = append(s.Subs, n(9)) })
		return slices.DeleteFunc(all, func(s api.Step) bool { return !Right(s) })
	}
	add(func(s *api.Step) { s.Kind = 3 - s.Kind })
	for f := range 3 {
		for _, num := range []int{0, 1, 2, 4096} {
			add(func(s *api.Step) { s.Key[f] = num })
		}
	}
	for i := range s.Tests {
		for num := -1; num <= 15; num++ {
			add(func(s *api.Step) { s.Tests[i].Field = num })
			add(func(s *api.Step) { s.Tests[i].Back = num })
			add(func(s *api.Step) { s.Tests[i].Other = num })
		}
		add(func(s *api.Step) { s.Tests = slices.Delete(s.Tests, i, i+1) })
	}
	add(func(s *api.Step) { s.Tests = append(s.Tests, of(2, 3, 1)) })
	add(func(s *api.Step) { s.Tests = slices.Insert(s.Tests, 0, of(0, 15, 1)) })
	return slices.DeleteFunc(all, func(s api.Step) bool { return !Right(s) })
}

// P8.1: of all pairs of right steps, those are alike that have one text.
func TestSameAll(t *testing.T) {
	low := is(api.Triple{0, 1, 0}, of(0, 0, 2), of(2, -1, 0))
	all := []api.Step{p(1), n(1), low, no(low.Key, low.Tests...), not(low), not(low, low), not(not(low)), not(not(low), low)}
	for _, s := range []api.Step{low, not(low), not(n(1), low), not(not(low, p(1)), n(2))} {
		all = append(append(all, s), variants(s)...)
	}
	texts := make([]string, len(all))
	for i, s := range all {
		texts[i] = text([]api.Step{s})
	}
	alike := 0
	for i, a := range all {
		for j, b := range all {
			if got := Same(a, b); got != (texts[i] == texts[j]) {
				t.Errorf("Same(%s, %s): %v", texts[i], texts[j], got)
			}
			if i != j && texts[i] == texts[j] {
				alike++
			}
		}
	}
	if len(all) < 200 || alike == 0 {
		t.Errorf("%d steps, %d pairs that are alike", len(all), alike)
	}
}

// P8.1: an empty list and no list are one, at each depth.
func TestSameEmpty(t *testing.T) {
	a, b := is(api.Triple{1, 0, 2}), is(api.Triple{1, 0, 2})
	b.Tests, b.Subs = []api.Test{}, []api.Step{}
	c, d := not(a, not(b)), not(b, not(a))
	d.Tests = make([]api.Test, 0, 3)
	if !Same(a, b) || !Same(b, a) || !Same(c, d) || !Same(d, c) {
		t.Error("an empty list isn't no list")
	}
}

// P8.1: of steps whose conditions have one text, or the same but for names, the steps are alike; of others they aren't.
func TestSameOfConditions(t *testing.T) {
	all := samples()
	for _, a := range all {
		for _, b := range all {
			for _, deep := range []func(c api.Cond) api.Cond{func(c api.Cond) api.Cond { return c }, func(c api.Cond) api.Cond { return ncc(pos(x, on, z), c) }} {
				s, u := Step(list(pos(y, x, on)), deep(a)), Step(list(pos(y, x, on)), deep(b))
				if got := Same(s, u); got != (text([]api.Step{s}) == text([]api.Step{u})) {
					t.Errorf("Same(%s, %s): %v", text([]api.Step{s}), text([]api.Step{u}), got)
				}
			}
		}
	}
}

// wantChains wants that those are the chains, each in short.
func wantChains(t *testing.T, l []api.Step, want ...string) {
	t.Helper()
	var got []string
	for _, c := range Chains(l) {
		got = append(got, short(c))
	}
	if !slices.Equal(got, want) {
		t.Errorf("Chains(%s): %q; wanted %q", short(l), got, want)
	}
}

// P8.1: the chains in order: an Ncc first, last, behind another one, in another one.
func TestChains(t *testing.T) {
	wantChains(t, nil)
	wantChains(t, []api.Step{})
	wantChains(t, []api.Step{p(1)}, "p1")
	wantChains(t, []api.Step{n(1)}, "n1")
	wantChains(t, []api.Step{not(p(1))}, "p1", "(p1)")
	wantChains(t, []api.Step{not(not(p(1)))}, "p1", "(p1)", "((p1))")
	wantChains(t, []api.Step{p(1), n(2), p(3)}, "p1", "p1 n2", "p1 n2 p3")
	wantChains(t, []api.Step{p(1), not(p(2), p(3)), p(4)}, "p1", "p1 p2", "p1 p2 p3", "p1 (p2 p3)", "p1 (p2 p3) p4")
	wantChains(t, []api.Step{not(p(1), p(2)), p(3), n(4)}, "p1", "p1 p2", "(p1 p2)", "(p1 p2) p3", "(p1 p2) p3 n4")
	wantChains(t, []api.Step{not(p(1)), not(p(2), n(3)), p(4)}, "p1", "(p1)", "(p1) p2", "(p1) p2 n3", "(p1) (p2 n3)", "(p1) (p2 n3) p4")
	wantChains(t, []api.Step{p(1), not(p(2), not(p(3), n(4)), p(5)), p(6)},
		"p1", "p1 p2", "p1 p2 p3", "p1 p2 p3 n4", "p1 p2 (p3 n4)", "p1 p2 (p3 n4) p5", "p1 (p2 (p3 n4) p5)", "p1 (p2 (p3 n4) p5) p6")
	wantChains(t, []api.Step{not(not(p(1)), not(p(2))), n(3)}, "p1", "(p1)", "(p1) p2", "(p1) (p2)", "((p1) (p2))", "((p1) (p2)) n3")
	wantChains(t, []api.Step{p(1), p(1), not(p(1)), not(p(1))}, "p1", "p1 p1", "p1 p1 p1", "p1 p1 (p1)", "p1 p1 (p1) p1", "p1 p1 (p1) (p1)")
}

// modelChains is what Chains is to answer: the beginnings are held as lists of their own.
func modelChains(ahead, l []api.Step) [][]api.Step {
	var want [][]api.Step
	for i, s := range l {
		begin := slices.Concat(ahead, l[:i])
		want = append(want, modelChains(begin, s.Subs)...)
		want = append(want, slices.Concat(begin, []api.Step{s}))
	}
	return want
}

// P8.1: the chains of all forms of up to seven steps, each of which can be told from the others.
func TestChainsAllForms(t *testing.T) {
	for size := 0; size <= 7; size++ {
		for _, f := range forests(size, 1) {
			i := 0
			l := Compile(fill(f, func() api.Cond {
				i++
				if i%3 == 0 {
					return neg(sy(i), x, x)
				}
				return pos(sy(i), on, x)
			}))
			want := modelChains(nil, l)
			if got := Chains(l); !slices.EqualFunc(got, want, func(a, b []api.Step) bool { return text(a) == text(b) }) {
				t.Errorf("Chains(%s): %v; wanted %v", text(l), got, want)
			}
			if len(want) != size {
				t.Errorf("%d chains of %d", len(want), size)
			}
		}
	}
}

// P8.1: lists of right steps may be longer than a rule's.
func TestChainsLong(t *testing.T) {
	l := append(plus(300, p(1)), not(plus(15, n(2))...), not(plus(7, not(p(3)))...))
	got := Chains(l)
	if len(got) != 300+16+15 || len(got[299]) != 300 || len(got[315]) != 301 || len(got[330]) != 302 {
		t.Errorf("%d chains", len(got))
	}
	if short(got[299]) != short(l[:300]) || short(got[330]) != short(l) {
		t.Error("a chain isn't its beginning of the list")
	}
	if Back(got[314]) != 300 || Back(l) != 300 {
		t.Errorf("%d and %d Pos", Back(got[314]), Back(l))
	}
}

// P8.1: how many Pos steps a list has itself; not those in an Ncc, nor what is of no kind.
func TestBack(t *testing.T) {
	for _, x := range []struct {
		l    []api.Step
		want int
	}{
		{nil, 0}, {[]api.Step{}, 0}, {[]api.Step{p(1)}, 1}, {[]api.Step{n(1)}, 0}, {[]api.Step{not(p(1), p(2))}, 0},
		{[]api.Step{p(1), n(2), p(1), not(p(3), not(p(4))), p(5)}, 3}, {plus(16, p(1)), 16}, {plus(100, p(1)), 100},
		{[]api.Step{{}, {Kind: 4}, {Kind: -1}, p(1), {Kind: 1<<32 + 1}}, 1},
	} {
		if got := Back(x.l); got != x.want {
			t.Errorf("Back(%s): %d; wanted %d", text(x.l), got, x.want)
		}
	}
}

// spoil writes over all that steps have, and behind their lists where there is room.
func spoil(l []api.Step) {
	for _, s := range l {
		spoil(s.Subs)
		full := s.Tests[:cap(s.Tests)]
		for i := range full {
			full[i] = of(-9, -9, -9)
		}
	}
	full := l[:cap(l)]
	for i := range full {
		full[i] = api.Step{Kind: 99}
	}
}

// P8.1: no two lists of what is compiled share memory, nor do two answers.
func TestCompiledSharesNothing(t *testing.T) {
	l := list(pos(x, x, y), ncc(pos(y, x, z), ncc(neg(z, y, x), pos(x, x, x)), neg(z, z, y)), ncc(neg(y, y, vr(4))), pos(y, x, x), neg(x, y, x))
	want, conds := text(model{}.steps(l)), condText(l)
	one, other := Compile(l), Compile(l)
	for i := range one {
		rest := text(one[i+1:])
		spoil(one[i].Subs)
		if full := one[i].Tests[:cap(one[i].Tests)]; len(full) > 0 {
			clear(full)
		}
		if text(one[i+1:]) != rest {
			t.Errorf("the step %d shares memory with one behind", i)
		}
	}
	spoil(one)
	if text(other) != want || condText(l) != conds {
		t.Error("an answer shares memory with another one, or with what was handed in")
	}
	// The Subs of one step: each is written over, and the others are as they were.
	s := Step(l[:1], ncc(pos(x, y, x), neg(y, y, x), ncc(pos(y, x, x))))
	for i := range s.Subs {
		rest := text(s.Subs[i+1:])
		spoil(s.Subs[i].Subs)
		clear(s.Subs[i].Tests[:cap(s.Subs[i].Tests)])
		if text(s.Subs[i+1:]) != rest {
			t.Errorf("the Sub %d shares memory with one behind", i)
		}
	}
}

// P8.1: no two chains share memory, nor do two answers, nor an answer and the list that was handed in; what is in a step is shared with that.
func TestChainsShare(t *testing.T) {
	l := []api.Step{p(1), not(p(2), not(n(3), p(4)), p(5)), not(p(6)), is(api.Triple{}, of(1, -1, 0))}
	want, all := modelChains(nil, l), text(l)
	one, other := Chains(l), Chains(l)
	for i := range one {
		full := one[i][:cap(one[i])]
		for k := range full {
			full[k] = api.Step{Kind: 99}
		}
		for k := i + 1; k < len(one); k++ {
			if text(one[k]) != text(want[k]) {
				t.Fatalf("chain %d shares memory with chain %d", k, i)
			}
		}
	}
	for i, c := range other {
		if text(c) != text(want[i]) {
			t.Fatalf("chain %d shares memory with that of another answer", i)
		}
	}
	if text(l) != all {
		t.Error("a chain shares memory with the list that was handed in")
	}
	last := other[len(other)-1]
	if &last[1].Subs[0] != &l[1].Subs[0] || &last[3].Tests[0] != &l[3].Tests[0] {
		t.Error("what is in a step is copied")
	}
}

// P8.1: no argument is written into, not even behind its lists.
func TestNothingWrittenInto(t *testing.T) {
	room := append(make([]api.Cond, 0, 32), pos(x, on, y), ncc(), ncc(), neg(x, x, z), pos(z, y, x), neg(on, x, x))
	subs := append(make([]api.Cond, 0, 32), pos(x, y, x), ncc(neg(y, z, x), pos(y, on, x)), pos(y, y, z), neg(z, x, x))
	room[1].Subs, room[2].Subs = subs[:3], subs[1:2]
	steps := append(make([]api.Step, 0, 32), p(1), not(), n(2), is(api.Triple{}, of(0, 0, 0)), p(4), n(5))
	steps[1].Subs = append(make([]api.Step, 0, 32), p(1), not(p(2), n(3)), p(4), n(5))[:3]
	behind := func() string {
		return condText(room[:32]) + condText(subs[:32]) + text(steps[:32]) + text(steps[1].Subs[:32])
	}
	for size := range 6 {
		all := behind()
		Compile(room[:size])
		Step(room[:size], room[size])
		Step(room[:size], room[1])
		Chains(steps[:size])
		Back(steps[:size])
		Right(steps[size])
		Same(steps[size], steps[1])
		if behind() != all {
			t.Errorf("what is handed in is written into, at %d", size)
		}
	}
}

// What the chapter leaves out ends, and doesn't panic: wrong conditions, such as stand in themselves, too many of them, and wrong steps.
func TestLeftOut(t *testing.T) {
	self := make([]api.Cond, 2)
	self[0], self[1] = ncc(self...), ncc(self...)
	one := list(
		api.Cond{}, ncc(), ncc(pos(x, y, z), ncc()), ncc(ncc(ncc(pos(x, y, z)))), self[0],
		api.Cond{Kind: 4, T: pos(x, y, z).T}, api.Cond{Kind: api.Pos, T: pos(x, y, z).T, Subs: self}, api.Cond{Kind: api.Ncc, T: pos(x, y, z).T, Subs: self},
		pos(vr(0), vr(33), vr(-1)), neg(vr(math.MaxInt), vr(math.MinInt), sy(0)), pos(sy(-1), sy(4097), sy(math.MaxInt)),
		ncc(times(100, pos(x, y, z))...), ncc(times(30, ncc(times(30, pos(x, y, z))...))...),
	)
	lists := [][]api.Cond{self, one, times(17, pos(x, y, z)), times(100_000, pos(x, y, z)), times(9, ncc(neg(x, x, x)))}
	for _, c := range one {
		lists = append(lists, list(c), list(pos(x, y, z), c), list(c, pos(x, y, z)))
	}
	for _, l := range lists {
		Compile(l)
		for _, c := range append(one, pos(x, y, z)) {
			Step(l, c)
		}
	}
	wrong := []api.Step{{}, {Kind: 4}, not(), not(not(not(p(1)))), is(api.Triple{-1, 0, 0}), no(api.Triple{}, of(0, 16, 0))}
	for _, a := range wrong {
		Chains([]api.Step{p(1), a})
		Back([]api.Step{a})
		for _, b := range wrong {
			Same(a, b)
		}
	}
}
