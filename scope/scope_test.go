package scope

import (
	"fmt"
	"math"
	"slices"
	"strings"
	"testing"

	"retiary/api"
)

// sy and vr are a symbol and a variable.
func sy(n int) api.Term { return api.Term{N: n} }
func vr(n int) api.Term { return api.Term{Var: true, N: n} }

// The variables and the symbol of most of the tests.
var x, y, z, on = vr(1), vr(2), vr(3), sy(7)

// pos, neg and ncc are conditions of those kinds.
func pos(a, b, c api.Term) api.Cond      { return api.Cond{Kind: api.Pos, T: [3]api.Term{a, b, c}} }
func neg(a, b, c api.Term) api.Cond      { return api.Cond{Kind: api.Neg, T: [3]api.Term{a, b, c}} }
func ncc(subs ...api.Cond) api.Cond      { return api.Cond{Kind: api.Ncc, Subs: subs} }
func list(l ...api.Cond) []api.Cond      { return l }
func times(n int, c api.Cond) []api.Cond { return slices.Repeat(list(c), n) }

// p and n are a Pos and a Neg that is known by its number.
func p(i int) api.Cond { return pos(sy(i), sy(i), sy(i)) }
func n(i int) api.Cond { return neg(sy(i), sy(i), sy(i)) }

// text is all that conditions are, as a text: two lists are alike if their texts are.
func text(l []api.Cond) string {
	var b strings.Builder
	for _, c := range l {
		fmt.Fprint(&b, " ", c.Kind, c.T, "(", text(c.Subs), ")")
	}
	return b.String()
}

// short is conditions by their numbers: p1, n1; of an Ncc those in it, in brackets.
func short(l []api.Cond) string {
	var all []string
	for _, c := range l {
		switch c.Kind {
		case api.Pos:
			all = append(all, fmt.Sprint("p", c.T[0].N))
		case api.Neg:
			all = append(all, fmt.Sprint("n", c.T[0].N))
		default:
			all = append(all, "("+short(c.Subs)+")")
		}
	}
	return strings.Join(all, " ")
}

// ways is the ways to all conditions, those in an Ncc ahead of it.
func ways(l []api.Cond, above []int) [][]int {
	var all [][]int
	for i, c := range l {
		at := append(slices.Clone(above), i)
		all = append(all, ways(c.Subs, at)...)
		all = append(all, at)
	}
	return all
}

// modelChain is the chain that the condition at a way ends: what stands ahead on each level that the way goes through, and the condition.
func modelChain(l []api.Cond, way []int) []api.Cond {
	var chain []api.Cond
	for _, i := range way[:len(way)-1] {
		chain = append(chain, l[:i]...)
		l = l[i].Subs
	}
	return append(chain, l[:way[len(way)-1]+1]...)
}

// modelChains is what Chains is to answer.
func modelChains(l []api.Cond) [][]api.Cond {
	var want [][]api.Cond
	for _, w := range ways(l, nil) {
		want = append(want, modelChain(l, w))
	}
	return want
}

// modelOwn is what Own is to answer.
func modelOwn(l []api.Cond) []int {
	var want []int
	for i, w := range ways(l, nil) {
		if len(w) == 1 {
			want = append(want, i)
		}
	}
	return want
}

// modelBound is what Bound is to answer: gone through from the end, so that what is written last is the first place.
func modelBound(chain []api.Cond) []Place {
	own := slices.DeleteFunc(slices.Clone(chain), func(c api.Cond) bool { return c.Kind != api.Pos })
	var at [33]*Place
	for b := len(own) - 1; b >= 0; b-- {
		for f := 2; f >= 0; f-- {
			if t := own[b].T[f]; t.Var {
				at[t.N] = &Place{t.N, b, f}
			}
		}
	}
	var want []Place
	for _, p := range at {
		if p != nil {
			want = append(want, *p)
		}
	}
	return want
}

// modelLocals is what Locals is to answer.
func modelLocals(chain []api.Cond, c api.Cond) []int {
	var in [33]bool
	var down func(c api.Cond)
	down = func(c api.Cond) {
		for _, t := range c.T {
			if t.Var {
				in[t.N] = true
			}
		}
		for _, s := range c.Subs {
			down(s)
		}
	}
	down(c)
	for _, p := range modelBound(chain) {
		in[p.Var] = false
	}
	var want []int
	for v, ok := range in {
		if ok {
			want = append(want, v)
		}
	}
	return want
}

// wantBound wants that those are the places.
func wantBound(t *testing.T, chain []api.Cond, want ...Place) {
	t.Helper()
	if got := Bound(chain); !slices.Equal(got, want) {
		t.Errorf("Bound(%s): %v; wanted %v", text(chain), got, want)
	}
}

// wantLocals wants that those are the variables that aren't bound.
func wantLocals(t *testing.T, chain []api.Cond, c api.Cond, want ...int) {
	t.Helper()
	if got := Locals(chain, c); !slices.Equal(got, want) {
		t.Errorf("Locals(%s; %s): %v; wanted %v", text(chain), text(list(c)), got, want)
	}
}

// wantChains wants that those are the chains, each in short, and that those are the ones that the conditions end themselves.
func wantChains(t *testing.T, l []api.Cond, want []string, own ...int) {
	t.Helper()
	var got []string
	for _, c := range Chains(l) {
		got = append(got, short(c))
	}
	if !slices.Equal(got, want) {
		t.Errorf("Chains(%s): %q; wanted %q", short(l), got, want)
	}
	if got := Own(l); !slices.Equal(got, own) {
		t.Errorf("Own(%s): %v; wanted %v", short(l), got, own)
	}
}

// wantModel wants that all calls answer of conditions, and of their chains, what the model does.
func wantModel(t *testing.T, l []api.Cond) {
	t.Helper()
	chains := modelChains(l)
	if got := Chains(l); !slices.EqualFunc(got, chains, func(a, b []api.Cond) bool { return text(a) == text(b) }) {
		t.Errorf("Chains(%s): %v; wanted %v", text(l), got, chains)
	}
	if got, want := Own(l), modelOwn(l); !slices.Equal(got, want) {
		t.Errorf("Own(%s): %v; wanted %v", text(l), got, want)
	}
	for _, c := range append(chains, nil) {
		wantBound(t, c, modelBound(c)...)
		for _, d := range l {
			wantLocals(t, c, d, modelLocals(c, d)...)
		}
	}
}

// forests is all lists of n conditions in all, at a depth; those without Subs are p(1).
func forests(n, depth int) [][]api.Cond {
	if n == 0 {
		return [][]api.Cond{nil}
	}
	var all [][]api.Cond
	for k := 1; k <= n; k++ {
		var heads []api.Cond
		if k == 1 {
			heads = list(p(1))
		} else if depth < 3 {
			for _, subs := range forests(k-1, depth+1) {
				heads = append(heads, ncc(subs...))
			}
		}
		for _, h := range heads {
			for _, rest := range forests(n-k, depth) {
				all = append(all, append(list(h), rest...))
			}
		}
	}
	return all
}

// fill is the same conditions; what has no Subs is what next answers, as it is written.
func fill(l []api.Cond, next func() api.Cond) []api.Cond {
	var out []api.Cond
	for _, c := range l {
		if c.Kind == api.Ncc {
			out = append(out, ncc(fill(c.Subs, next)...))
		} else {
			out = append(out, next())
		}
	}
	return out
}

// P6.1: all forms of up to seven conditions, each of which can be told from the others.
func TestAllForms(t *testing.T) {
	seen := 0
	for size := 0; size <= 7; size++ {
		for _, f := range forests(size, 1) {
			i := 0
			wantModel(t, fill(f, func() api.Cond {
				i++
				if i%3 == 0 {
					return n(i)
				}
				return p(i)
			}))
			seen++
		}
	}
	if seen < 300 {
		t.Errorf("%d forms", seen)
	}
}

// P6.1: all forms of up to three conditions and some greater ones, with variables in all sorts of places.
func TestAllSmall(t *testing.T) {
	of := list(p(1), n(1), pos(x, on, y), neg(x, y, on), pos(y, x, x), neg(z, on, z), pos(on, z, y))
	for size := 1; size <= 3; size++ {
		for _, f := range forests(size, 1) {
			for k := 0; k < len(of)*len(of)*len(of); k++ {
				rest := k
				wantModel(t, fill(f, func() api.Cond {
					c := of[rest%len(of)]
					rest /= len(of)
					return c
				}))
			}
		}
	}
	for i, f := range append(forests(5, 1), forests(6, 1)...) {
		for k := 0; k < 20; k++ {
			at := i + k
			wantModel(t, fill(f, func() api.Cond {
				at = (at*5 + k + 3) % 1009
				return of[at%len(of)]
			}))
		}
	}
}

// P6.1: no conditions: nothing is bound, there is no chain.
func TestNone(t *testing.T) {
	for _, l := range [][]api.Cond{nil, {}, make([]api.Cond, 0, 4)} {
		wantChains(t, l, nil)
		wantBound(t, l)
		wantLocals(t, l, p(1))
		wantLocals(t, l, pos(y, on, x), 1, 2)
	}
}

// P6.1: one condition.
func TestOne(t *testing.T) {
	wantChains(t, list(p(1)), []string{"p1"}, 0)
	wantChains(t, list(n(1)), []string{"n1"}, 0)
	wantChains(t, list(ncc(p(1))), []string{"p1", "(p1)"}, 1)
	wantChains(t, list(ncc(n(1), p(2))), []string{"n1", "n1 p2", "(n1 p2)"}, 2)
	wantChains(t, list(ncc(ncc(p(1)))), []string{"p1", "(p1)", "((p1))"}, 2)
}

// P6.1: the chains in order, and which of them conditions end themselves: an Ncc first, last, behind another one, in another one.
func TestChains(t *testing.T) {
	wantChains(t, list(p(1), n(2), p(3)), []string{"p1", "p1 n2", "p1 n2 p3"}, 0, 1, 2)
	wantChains(t, list(ncc(p(1), p(2)), p(3), n(4)), []string{"p1", "p1 p2", "(p1 p2)", "(p1 p2) p3", "(p1 p2) p3 n4"}, 2, 3, 4)
	wantChains(t, list(p(3), n(4), ncc(p(1), n(2))), []string{"p3", "p3 n4", "p3 n4 p1", "p3 n4 p1 n2", "p3 n4 (p1 n2)"}, 0, 1, 4)
	wantChains(t, list(ncc(p(1)), ncc(p(2), n(3)), p(4)), []string{"p1", "(p1)", "(p1) p2", "(p1) p2 n3", "(p1) (p2 n3)", "(p1) (p2 n3) p4"}, 1, 4, 5)
	wantChains(t, list(p(1), ncc(p(2), ncc(p(3), n(4)), p(5)), p(6)), []string{
		"p1", "p1 p2", "p1 p2 p3", "p1 p2 p3 n4", "p1 p2 (p3 n4)", "p1 p2 (p3 n4) p5", "p1 (p2 (p3 n4) p5)", "p1 (p2 (p3 n4) p5) p6",
	}, 0, 6, 7)
	wantChains(t, list(ncc(ncc(p(1)), ncc(p(2))), n(3)), []string{"p1", "(p1)", "(p1) p2", "(p1) (p2)", "((p1) (p2))", "((p1) (p2)) n3"}, 4, 5)
	// Like conditions are as many as are written.
	wantChains(t, list(p(1), p(1), ncc(p(1)), ncc(p(1))), []string{"p1", "p1 p1", "p1 p1 p1", "p1 p1 (p1)", "p1 p1 (p1) p1", "p1 p1 (p1) (p1)"}, 0, 1, 3, 5)
}

// P6.1: sizes together at the most that may be.
func TestMost(t *testing.T) {
	var wide []string
	for i := 1; i <= 16; i++ {
		wide = append(wide, strings.TrimSpace(strings.Repeat("p1 ", i)))
	}
	wantChains(t, times(16, p(1)), wide, 0, 1, 2, 3, 4, 5, 6, 7, 8, 9, 10, 11, 12, 13, 14, 15)
	wantChains(t, list(ncc(times(15, p(1))...)), append(wide[:15:15], "("+wide[14]+")"), 15)
	wantChains(t, list(ncc(ncc(times(14, p(1))...))), append(wide[:14:14], "("+wide[13]+")", "(("+wide[13]+"))"), 15)
	for _, l := range [][]api.Cond{
		append(times(5, ncc(ncc(p(1)))), n(2)),
		append(list(n(2)), times(5, ncc(p(1), p(3)))...),
		times(8, ncc(neg(x, y, z))),
		list(ncc(times(7, ncc(p(1)))...), n(2)),
		list(ncc(append(times(12, pos(x, y, on)), ncc(neg(x, y, z)))...), pos(on, z, y)),
		append(times(15, neg(x, y, vr(32))), pos(vr(32), y, x)),
	} {
		if got := len(Chains(l)); got != 16 {
			t.Errorf("%d chains of %s", got, text(l))
		}
		wantModel(t, l)
	}
}

// P6.1: a variable is bound in a Pos of the chain itself, in none other.
func TestBoundKinds(t *testing.T) {
	a := pos(x, on, y)
	wantBound(t, list(a), Place{1, 0, 0}, Place{2, 0, 2})
	wantBound(t, list(neg(x, on, y)))
	wantBound(t, list(ncc(a)))
	wantBound(t, list(ncc(ncc(a), a)))
	wantBound(t, list(p(1), n(1)))
	// What isn't a Pos of the chain isn't counted, neither ahead of a place nor behind.
	wantBound(t, list(neg(z, x, y), ncc(a, p(1)), a, ncc(pos(z, z, z)), neg(z, z, z)), Place{1, 0, 0}, Place{2, 0, 2})
	wantBound(t, list(p(1), neg(x, x, x), p(2), ncc(p(3), a), a), Place{1, 2, 0}, Place{2, 2, 2})
	// In a Neg first, then in a Pos.
	wantBound(t, list(neg(x, y, on), pos(y, on, z), neg(x, x, x), pos(z, x, y)), Place{1, 1, 1}, Place{2, 0, 0}, Place{3, 0, 2})
	// In an Ncc's Pos first, then in a Pos.
	wantBound(t, list(ncc(pos(x, x, x)), pos(on, on, x)), Place{1, 0, 2})
}

// P6.1: the first place is told: of several Pos the first one, of several fields the first one.
func TestBoundFirst(t *testing.T) {
	wantBound(t, list(pos(x, x, x)), Place{1, 0, 0})
	wantBound(t, list(pos(on, x, x)), Place{1, 0, 1})
	wantBound(t, list(pos(x, on, x)), Place{1, 0, 0})
	wantBound(t, list(pos(y, x, x)), Place{1, 0, 1}, Place{2, 0, 0})
	wantBound(t, list(pos(on, on, x), pos(x, on, on), pos(x, y, x)), Place{1, 0, 2}, Place{2, 2, 1})
	wantBound(t, list(pos(z, on, on), neg(y, x, z), pos(y, on, z), ncc(pos(x, on, z)), n(1), pos(x, y, z), pos(x, y, z)), Place{1, 2, 0}, Place{2, 1, 0}, Place{3, 0, 0})
}

// P6.1: places are told by variables, rising, whatever the order in which these come.
func TestBoundRising(t *testing.T) {
	wantBound(t, list(pos(vr(32), vr(31), vr(3)), pos(vr(2), on, vr(1)), pos(vr(10), vr(2), vr(9))),
		Place{1, 1, 2}, Place{2, 1, 0}, Place{3, 0, 2}, Place{9, 2, 2}, Place{10, 2, 0}, Place{31, 0, 1}, Place{32, 0, 0})
	var chain []api.Cond
	var want []Place
	for i := 0; i < 11; i++ {
		chain = append(chain, pos(vr(32-3*i), vr(31-3*i), vr(max(1, 30-3*i))))
	}
	for v := 1; v <= 32; v++ {
		want = append(want, Place{v, (32 - v) / 3, (32 - v) % 3})
	}
	wantBound(t, chain, want...)
}

// P6.1: each variable is asked in each field of each Pos, the last ones too; a symbol of that number is none.
func TestBoundEach(t *testing.T) {
	for v := 1; v <= 32; v++ {
		for f := 0; f < 3; f++ {
			for b := 0; b < 16; b++ {
				chain := times(16, pos(sy(v), sy(v), sy(v)))
				wantBound(t, chain)
				chain[b].T[f] = vr(v)
				wantBound(t, chain, Place{v, b, f})
				wantLocals(t, chain[:b+1], neg(vr(v), sy(v), on))
				wantLocals(t, chain[:b], neg(vr(v), sy(v), on), v)
				chain[b].Kind = api.Neg
				wantBound(t, chain)
			}
		}
	}
}

// P6.1: which variables of a condition aren't bound.
func TestLocals(t *testing.T) {
	chain := list(pos(x, on, vr(32)), neg(y, on, x), ncc(pos(z, on, x)))
	wantLocals(t, chain, p(1))
	wantLocals(t, chain, pos(x, vr(32), x))
	wantLocals(t, chain, pos(x, y, z), 2, 3)
	wantLocals(t, chain, neg(vr(31), vr(4), vr(31)), 4, 31)
	wantLocals(t, chain, ncc(pos(vr(9), vr(8), x), ncc(neg(y, vr(9), vr(1)), pos(vr(32), vr(31), on))), 2, 8, 9, 31)
	wantLocals(t, chain, ncc(ncc(pos(x, vr(32), on))))
	wantLocals(t, nil, ncc(ncc(neg(vr(32), y, x)), pos(y, z, on)), 1, 2, 3, 32)
	// What a Pos in the condition itself would bind isn't bound in the chain.
	wantLocals(t, list(n(1)), ncc(pos(y, on, x), neg(x, on, y)), 1, 2)
	wantLocals(t, chain, pos(y, on, x), 2)
	wantLocals(t, append(chain, pos(y, on, x)), pos(y, on, x))
	// A symbol of a variable's number, bound or not, is no variable.
	wantLocals(t, chain, neg(sy(1), sy(2), sy(32)))
	wantLocals(t, list(pos(sy(1), sy(2), sy(3))), neg(x, on, z), 1, 3)
}

// P6.1: what the example of the chapter says.
func TestExample(t *testing.T) {
	wantChains(t, list(p(1), ncc(p(2), p(3)), p(4)), []string{"p1", "p1 p2", "p1 p2 p3", "p1 (p2 p3)", "p1 (p2 p3) p4"}, 0, 3, 4)
}

// P6.1: no two lists of an answer share memory, nor do two answers, nor an answer and what was handed in.
func TestShareNothing(t *testing.T) {
	l := list(p(1), ncc(p(2), ncc(n(3), p(4)), p(5)), ncc(p(6)), n(7))
	want, all := modelChains(l), text(l)
	one, other := Chains(l), Chains(l)
	for i := range one {
		full := one[i][:cap(one[i])]
		for k := range full {
			full[k] = api.Cond{Kind: 99}
		}
		for k := i + 1; k < len(one); k++ {
			if text(one[k]) != text(want[k]) {
				t.Fatalf("chain %d shares memory with chain %d", k, i)
			}
		}
	}
	for i, c := range other {
		if text(c) != text(want[i]) {
			t.Fatalf("chain %d shares memory with that of another answer", i)
		}
	}
	if text(l) != all {
		t.Error("a chain shares memory with the list that was handed in")
	}
}

// P6.1: the conditions in chains are those of the list: what is in an Ncc isn't copied.
func TestSubsShared(t *testing.T) {
	l := list(ncc(p(2), ncc(n(3)), p(5)), n(7))
	for _, c := range Chains(l) {
		for _, d := range c {
			if d.Kind == api.Ncc && &d.Subs[0] != &l[0].Subs[0] && &d.Subs[0] != &l[0].Subs[1].Subs[0] {
				t.Errorf("an Ncc of %s is copied", short(c))
			}
		}
	}
}

// P6.1: no argument is written into, not even behind its lists.
func TestNothingWrittenInto(t *testing.T) {
	room := append(make([]api.Cond, 0, 32), pos(x, on, y), ncc(), ncc(), neg(x, x, z), pos(z, y, x), n(9))
	subs := append(make([]api.Cond, 0, 32), p(1), ncc(n(2), pos(y, on, x)), p(3), n(4))
	room[1].Subs, room[2].Subs = subs[:3], subs[1:2]
	for size := 0; size <= 5; size++ {
		l := room[:size]
		all := text(room[:32]) + text(subs[:32])
		Chains(l)
		Own(l)
		Bound(l)
		for _, c := range room[:5] {
			Locals(l, c)
		}
		if text(room[:32])+text(subs[:32]) != all {
			t.Errorf("%d conditions are written into", size)
		}
	}
}

// What the chapter leaves out ends, and doesn't panic: wrong conditions, such as stand in themselves, and too many of them.
func TestLeftOut(t *testing.T) {
	self := make([]api.Cond, 2)
	self[0], self[1] = ncc(self...), ncc(self...)
	one := list(
		api.Cond{}, ncc(), ncc(p(1), ncc()), ncc(ncc(ncc(p(1)))), self[0],
		api.Cond{Kind: 4, T: p(1).T}, api.Cond{Kind: api.Pos, T: p(1).T, Subs: self}, api.Cond{Kind: api.Ncc, T: pos(x, y, z).T, Subs: self},
		pos(vr(0), vr(33), vr(-1)), neg(vr(math.MaxInt), vr(math.MinInt), sy(0)), ncc(pos(vr(99), vr(-99), sy(-1))),
		ncc(times(100, p(1))...), ncc(times(30, ncc(times(30, pos(x, y, z))...))...),
	)
	lists := [][]api.Cond{self, one, times(17, pos(x, y, z)), times(3000, pos(x, y, z)), times(9, ncc(p(1)))}
	for _, c := range one {
		lists = append(lists, list(c), list(pos(x, y, z), c), list(c, pos(x, y, z)))
	}
	for _, l := range lists {
		Chains(l)
		Own(l)
		Bound(l)
		for _, c := range one {
			Locals(l, c)
		}
	}
}
