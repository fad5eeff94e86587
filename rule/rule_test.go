package rule

import (
	"fmt"
	"math"
	"slices"
	"strings"
	"testing"

	"retiary/api"
)

// sy and vr are a symbol and a variable.
func sy(n int) api.Term { return api.Term{N: n} }
func vr(n int) api.Term { return api.Term{Var: true, N: n} }

// The variables and the symbol of most of the tests.
var x, y, z, on = vr(1), vr(2), vr(3), sy(7)

// pos, neg and ncc are conditions of those kinds; named is a rule.
func pos(a, b api.Term) api.Cond         { return api.Cond{Kind: api.Pos, T: [3]api.Term{a, on, b}} }
func neg(a, b api.Term) api.Cond         { return api.Cond{Kind: api.Neg, T: [3]api.Term{a, on, b}} }
func ncc(subs ...api.Cond) api.Cond      { return api.Cond{Kind: api.Ncc, Subs: subs} }
func named(l ...api.Cond) api.Rule       { return api.Rule{Name: "r", Conds: l} }
func times(n int, c api.Cond) []api.Cond { return slices.Repeat([]api.Cond{c}, n) }

// text is all that a rule is, as a text: two are alike if their texts are.
func text(r api.Rule) string { return r.Name + "{" + textOf(r.Conds) + "}" }

func textOf(l []api.Cond) string {
	var b strings.Builder
	for _, c := range l {
		fmt.Fprint(&b, " ", c.Kind, c.T, "(", textOf(c.Subs), ")")
	}
	return b.String()
}

// leaf is a Pos or a Neg of a rule: the condition, the way to it, and the Ncc that it stands in, from the outermost one on, by numbers of their own.
type leaf struct {
	c   api.Cond
	way []int
	in  []int
}

// leaves is all Pos and Neg of a rule, as they are written.
func leaves(r api.Rule) []leaf {
	var all []leaf
	nccs := 0
	var down func(l []api.Cond, way, in []int)
	down = func(l []api.Cond, way, in []int) {
		for i, c := range l {
			at := append(append([]int{}, way...), i)
			if c.Kind != api.Ncc {
				all = append(all, leaf{c, at, in})
				continue
			}
			nccs++
			down(c.Subs, at, append(append([]int{}, in...), nccs))
		}
	}
	down(r.Conds, nil, nil)
	return all
}

// has tells whether a variable stands in a leaf.
func (f leaf) has(v int) bool { return f.c.T[0] == vr(v) || f.c.T[1] == vr(v) || f.c.T[2] == vr(v) }

// modelPlaces is what Places is to answer.
func modelPlaces(r api.Rule, v int) [][]int {
	var want [][]int
	for _, f := range leaves(r) {
		if f.has(v) {
			want = append(want, f.way)
		}
	}
	return want
}

// modelScope tells whether a variable is out of place: in which of the leaves it may stand is noted at its first place.
func modelScope(r api.Rule, v int) bool {
	all := leaves(r)
	first := slices.IndexFunc(all, func(f leaf) bool { return f.has(v) })
	for i, f := range all {
		if !f.has(v) {
			continue
		}
		a := all[first]
		switch {
		case a.c.Kind == api.Neg:
			if i != first {
				return true
			}
		case len(a.in) > 0:
			if !slices.Contains(f.in, a.in[len(a.in)-1]) {
				return true
			}
		}
	}
	return false
}

// modelCheck is what Check is to answer of a rule with no variable above 3, in which nothing but the scopes can be wrong.
func modelCheck(r api.Rule) api.Errno {
	for v := 1; v <= 3; v++ {
		if modelScope(r, v) {
			return api.ErrScope
		}
	}
	return api.OK
}

// forests is all lists of conditions with n leaves at a depth; the leaves are Pos of a symbol thrice.
func forests(n, depth int) [][]api.Cond {
	if n == 0 {
		return [][]api.Cond{nil}
	}
	var all [][]api.Cond
	for k := 1; k <= n; k++ {
		var heads []api.Cond
		if k == 1 {
			heads = append(heads, pos(on, on))
		}
		if depth < 3 {
			for _, subs := range forests(k, depth+1) {
				heads = append(heads, ncc(subs...))
			}
		}
		for _, h := range heads {
			for _, rest := range forests(n-k, depth) {
				all = append(all, append([]api.Cond{h}, rest...))
			}
		}
	}
	return all
}

// fill is the same conditions with those leaves, in the order in which they are written, and the leaves that are left.
func fill(l []api.Cond, in []api.Cond) ([]api.Cond, []api.Cond) {
	var out []api.Cond
	for _, c := range l {
		if c.Kind == api.Ncc {
			var subs []api.Cond
			subs, in = fill(c.Subs, in)
			out = append(out, ncc(subs...))
			continue
		}
		out, in = append(out, in[0]), in[1:]
	}
	return out, in
}

// rules calls do with all rules of n leaves, each of which is one of those.
func rules(n int, of []api.Cond, do func(api.Rule)) {
	for _, f := range forests(n, 1) {
		choice := make([]int, n)
		for {
			in := make([]api.Cond, n)
			for i, k := range choice {
				in[i] = of[k]
			}
			l, _ := fill(f, in)
			do(named(l...))
			i := 0
			for i < n && choice[i] == len(of)-1 {
				choice[i] = 0
				i++
			}
			if i == n {
				break
			}
			choice[i]++
		}
	}
}

// every calls do with all small rules in which nothing but scopes can be wrong.
func every(do func(api.Rule)) {
	two := []api.Cond{pos(on, on), neg(on, on), pos(x, on), neg(on, x), pos(y, on), neg(on, y), pos(x, y), neg(y, x)}
	for n := 1; n <= 3; n++ {
		rules(n, two, do)
	}
	rules(4, []api.Cond{pos(on, on), neg(on, on), pos(x, on), neg(on, x)}, do)
	rules(5, []api.Cond{pos(on, x), neg(x, x)}, do)
}

// check wants that Check answers that.
func check(t *testing.T, r api.Rule, want api.Errno) {
	t.Helper()
	if got := Check(r); got != want {
		t.Errorf("Check(%s): %d; wanted %d", text(r), got, want)
	}
}

// wantPlaces wants that those are the places.
func wantPlaces(t *testing.T, r api.Rule, v int, want [][]int) {
	t.Helper()
	if got := Places(r, v); !slices.EqualFunc(got, want, slices.Equal[[]int]) {
		t.Errorf("Places(%s, %d): %v; wanted %v", text(r), v, got, want)
	}
}

// P5.1: all small rules: which have a variable out of place; and, of the others, its places and what else there is to ask.
func TestAllSmall(t *testing.T) {
	told := map[api.Errno]int{}
	every(func(r api.Rule) {
		want := modelCheck(r)
		told[want]++
		check(t, r, want)
		if want != api.OK {
			return
		}
		for v := 1; v <= 3; v++ {
			wantPlaces(t, r, v, modelPlaces(r, v))
		}
		own := 0
		for _, f := range leaves(r) {
			if f.c.Kind == api.Pos && len(f.way) == 1 {
				own++
			}
		}
		if got := Ids(r); got != own {
			t.Errorf("Ids(%s): %d; wanted %d", text(r), got, own)
		}
		c := Copy(r)
		if text(c) != text(r) || !Same(c, r) || !Same(r, c) {
			t.Errorf("Copy(%s): %s", text(r), text(c))
		}
	})
	if told[api.OK] < 1000 || told[api.ErrScope] < 1000 {
		t.Errorf("too few of a sort: %v", told)
	}
}

// P5.1: a name that isn't right; one that is.
func TestCheckName(t *testing.T) {
	for name, want := range map[string]api.Errno{
		"r": api.OK, "-": api.OK, "_9Z": api.OK, strings.Repeat("a", 32): api.OK,
		"": api.ErrName, strings.Repeat("a", 33): api.ErrName, "o n": api.ErrName, "a.b": api.ErrName, "é": api.ErrName, "a\x00": api.ErrName, "\xff": api.ErrName,
	} {
		check(t, api.Rule{Name: name, Conds: []api.Cond{pos(x, y)}}, want)
	}
}

// P5.1: no conditions, whether the list is there or not.
func TestCheckEmpty(t *testing.T) {
	for _, l := range [][]api.Cond{nil, {}, make([]api.Cond, 0, 4)} {
		check(t, named(l...), api.ErrEmpty)
		check(t, api.Rule{Name: "o n", Conds: l}, api.ErrName)
	}
}

// wrongOnes is conditions that are wrong at the depth 1, with what is wrong.
func wrongOnes() map[api.Errno]api.Cond {
	return map[api.Errno]api.Cond{
		api.ErrKind:  {Kind: 4},
		api.ErrTerm:  pos(x, sy(4097)),
		api.ErrEmpty: ncc(pos(x, y), ncc()),
		api.ErrDeep:  ncc(ncc(ncc(pos(x, y)))),
	}
}

// P5.1: the first condition that is wrong is told, whatever stands ahead of it or behind it.
func TestCheckConds(t *testing.T) {
	for e, c := range wrongOnes() {
		check(t, named(c), e)
		check(t, named(pos(x, y), c), e)
		check(t, named(c, pos(x, y)), e)
		check(t, named(pos(x, y), ncc(pos(y, z)), c, neg(x, x)), e)
		for _, d := range wrongOnes() {
			check(t, named(c, d), e)
			check(t, named(pos(x, y), c, pos(x, y), d), e)
		}
	}
	check(t, named(pos(x, vr(33))), api.ErrTerm)
	check(t, named(pos(vr(0), x)), api.ErrTerm)
	check(t, named(neg(x, sy(math.MinInt))), api.ErrTerm)
	check(t, named(pos(vr(32), sy(4096))), api.OK)
	// Depths are counted from the rule's own conditions on, in each of them anew.
	check(t, named(ncc(ncc(pos(x, y))), ncc(ncc(neg(z, z)))), api.OK)
	check(t, named(ncc(pos(x, y), ncc(ncc(neg(z, z))))), api.ErrDeep)
}

// P5.1: sizes together at 16 and above, in own conditions, in an Ncc, and in an Ncc in an Ncc.
func TestCheckLong(t *testing.T) {
	for a := 0; a <= 18; a++ {
		for b := 0; b <= 18; b++ {
			for c := 0; c <= 18; c++ {
				size := a
				subs := times(b, neg(on, on))
				if c > 0 {
					subs = append(subs, ncc(times(c, pos(on, on))...))
					size += 1 + c
				}
				l := times(a, pos(on, on))
				if len(subs) > 0 {
					l = append(l, ncc(subs...))
					size += 1 + b
				}
				want := api.OK
				switch {
				case size == 0:
					want = api.ErrEmpty
				case size > 16:
					want = api.ErrLong
				}
				check(t, named(l...), want)
				slices.Reverse(l)
				check(t, named(l...), want)
			}
		}
	}
	check(t, named(times(16, pos(x, y))...), api.OK)
	check(t, named(times(17, pos(x, y))...), api.ErrLong)
	check(t, named(times(8, ncc(pos(on, on)))...), api.OK)
	check(t, named(times(9, ncc(pos(on, on)))...), api.ErrLong)
	check(t, named(append(times(8, ncc(pos(on, on))), neg(on, on))...), api.ErrLong)
	check(t, named(times(5, ncc(ncc(pos(on, on))))...), api.OK)
	check(t, named(times(6, ncc(ncc(pos(on, on))))...), api.ErrLong)
	check(t, named(times(100000, pos(x, y))...), api.ErrLong)
	check(t, named(times(300, ncc(times(300, pos(x, y))...))...), api.ErrLong)
}

// P5.1: where several things are wrong, the one that the chapter names first is told.
func TestCheckOrder(t *testing.T) {
	scope := []api.Cond{neg(x, y), pos(x, y)}
	long := append(slices.Clone(scope), times(15, pos(y, z))...)
	bad := "o n"
	check(t, named(scope...), api.ErrScope)
	check(t, named(long...), api.ErrLong)
	check(t, api.Rule{Name: bad}, api.ErrName)
	check(t, api.Rule{Name: bad, Conds: scope}, api.ErrName)
	check(t, api.Rule{Name: bad, Conds: long}, api.ErrName)
	for e, c := range wrongOnes() {
		check(t, api.Rule{Name: bad, Conds: []api.Cond{c}}, api.ErrName)
		check(t, named(append([]api.Cond{c}, scope...)...), e)
		check(t, named(append(slices.Clone(scope), c)...), e)
		check(t, named(append([]api.Cond{c}, long...)...), e)
		check(t, named(append(slices.Clone(long), c)...), e)
		check(t, api.Rule{Name: bad, Conds: append(slices.Clone(long), c)}, api.ErrName)
	}
	// An Ncc without Subs is wrong, though its rule has conditions; and so is one that is too long by itself.
	check(t, named(ncc()), api.ErrEmpty)
	check(t, named(ncc(append(times(16, pos(x, y)), api.Cond{})...)), api.ErrKind)
	check(t, named(ncc(long...)), api.ErrLong)
}

// P5.1: first a Pos of the rule's own: the whole rule.
func TestScopeOwnPos(t *testing.T) {
	for _, c := range inside() {
		check(t, named(pos(x, on), c), api.OK)
		check(t, named(pos(on, on), pos(x, on), c, c), api.OK)
		check(t, named(pos(on, x), neg(on, on), ncc(neg(on, on)), c), api.OK)
		// Ahead of the Pos a place is the first one, and has another scope.
		want := api.ErrScope
		if c.Kind == api.Pos {
			want = api.OK
		}
		check(t, named(c, pos(x, on)), want)
	}
	// A condition that has the variable thrice is one place.
	check(t, named(api.Cond{Kind: api.Pos, T: [3]api.Term{x, x, x}}, neg(x, x)), api.OK)
	check(t, named(api.Cond{Kind: api.Pos, T: [3]api.Term{on, x, on}}, ncc(ncc(neg(x, x)))), api.OK)
}

// inside is conditions in which x has a place, at each depth.
func inside() []api.Cond {
	return []api.Cond{pos(x, on), neg(x, on), ncc(pos(on, x)), ncc(neg(x, on)), ncc(ncc(pos(x, on))), ncc(ncc(neg(on, x)))}
}

// P5.1: first a Pos in an Ncc: that Ncc.
func TestScopeNccPos(t *testing.T) {
	for _, c := range []api.Cond{pos(x, on), neg(x, on), ncc(pos(x, on)), ncc(neg(on, x))} {
		check(t, named(ncc(pos(x, on), c)), api.OK)
		check(t, named(pos(y, on), ncc(pos(x, y), pos(on, on), c), neg(y, on)), api.OK)
		check(t, named(ncc(pos(x, on), ncc(neg(on, on)), c, c)), api.OK)
		want := api.ErrScope
		if c.Kind == api.Pos {
			want = api.OK
		}
		check(t, named(ncc(c, pos(x, on))), want)
	}
	for _, c := range inside() {
		check(t, named(ncc(pos(x, on)), c), api.ErrScope)
		check(t, named(ncc(pos(x, on), neg(x, on)), pos(on, on), c), api.ErrScope)
		want := api.ErrScope
		if c.Kind == api.Pos {
			want = api.OK
		}
		check(t, named(c, ncc(pos(x, on))), want)
		check(t, named(c, ncc(neg(on, on), pos(x, on), pos(x, on))), want)
	}
}

// P5.1: first a Pos in an Ncc in an Ncc: the inner one.
func TestScopeInnerPos(t *testing.T) {
	check(t, named(ncc(ncc(pos(x, on)))), api.OK)
	for _, c := range []api.Cond{pos(x, on), neg(x, on)} {
		check(t, named(ncc(ncc(pos(x, on), c))), api.OK)
		check(t, named(ncc(pos(y, on), ncc(pos(on, on), pos(x, y), c, c), neg(y, on)), pos(on, on)), api.OK)
	}
	for _, c := range inside() {
		check(t, named(ncc(ncc(pos(x, on))), c), api.ErrScope)
		check(t, named(ncc(ncc(pos(x, on), neg(x, on))), neg(on, on), c), api.ErrScope)
		if c.Kind != api.Pos {
			check(t, named(c, ncc(ncc(pos(x, on)))), api.ErrScope)
		}
	}
	for _, c := range []api.Cond{pos(x, on), neg(x, on), ncc(pos(x, on)), ncc(neg(on, x))} {
		// In the outer one, behind the inner one and ahead of it.
		check(t, named(ncc(ncc(pos(x, on)), c)), api.ErrScope)
		want := api.ErrScope
		if c.Kind == api.Pos {
			want = api.OK
		}
		check(t, named(ncc(c, ncc(pos(x, on)))), want)
	}
}

// P5.1: first a Neg: that Neg itself, at whatever depth.
func TestScopeNeg(t *testing.T) {
	check(t, named(neg(x, x)), api.OK)
	check(t, named(pos(y, on), neg(x, y), neg(z, z)), api.OK)
	check(t, named(ncc(neg(x, on))), api.OK)
	check(t, named(ncc(ncc(neg(x, x)))), api.OK)
	for _, c := range inside() {
		check(t, named(neg(x, on), c), api.ErrScope)
		check(t, named(ncc(neg(x, on)), c), api.ErrScope)
		check(t, named(ncc(ncc(neg(x, on))), c), api.ErrScope)
		check(t, named(pos(y, y), neg(x, y), neg(y, y), c), api.ErrScope)
	}
	for _, c := range []api.Cond{pos(x, on), neg(x, on), ncc(pos(x, on)), ncc(neg(on, x))} {
		check(t, named(ncc(neg(x, on), c)), api.ErrScope)
		check(t, named(ncc(ncc(neg(x, on)), c)), api.ErrScope)
	}
	check(t, named(ncc(ncc(neg(x, on), pos(x, on)))), api.ErrScope)
	check(t, named(ncc(ncc(neg(x, on), neg(x, on)))), api.ErrScope)
	// Two variables of one Neg, of which one has a Pos ahead of it.
	check(t, named(pos(y, y), neg(x, y), pos(y, z)), api.OK)
	check(t, named(pos(y, y), neg(x, y), pos(x, z)), api.ErrScope)
}

// P5.1: each variable, the last one too, and each field is asked.
func TestScopeEachVariable(t *testing.T) {
	for v := 1; v <= 32; v++ {
		for f := 0; f < 3; f++ {
			for g := 0; g < 3; g++ {
				a, b := neg(on, on), pos(on, on)
				a.T[f], b.T[g] = vr(v), vr(v)
				check(t, named(a, b), api.ErrScope)
				check(t, named(b, a), api.OK)
				check(t, named(ncc(b), a), api.ErrScope)
				check(t, named(ncc(b, a)), api.OK)
				b.T[g] = sy(v)
				check(t, named(a, b), api.OK)
				b.T[g] = vr(v%32 + 1)
				check(t, named(a, b), api.OK)
			}
		}
	}
}

// P5.1: the ways to the places of variables, at several depths.
func TestPlaces(t *testing.T) {
	r := named(pos(x, y), ncc(pos(y, z), ncc(neg(x, z), neg(on, on), pos(x, x))), neg(on, on), ncc(ncc(pos(on, vr(32))), neg(x, y)), pos(x, x))
	check(t, r, api.OK)
	wantPlaces(t, r, 1, [][]int{{0}, {1, 1, 0}, {1, 1, 2}, {3, 1}, {4}})
	wantPlaces(t, r, 2, [][]int{{0}, {1, 0}, {3, 1}})
	wantPlaces(t, r, 3, [][]int{{1, 0}, {1, 1, 0}})
	wantPlaces(t, r, 32, [][]int{{3, 0, 0}})
	// Neither the symbol of that number, nor an Ncc's terms, nor a number that no variable has.
	for _, v := range []int{7, 4, 31, 0, -1, 33, 4096, math.MaxInt, math.MinInt} {
		if got := Places(r, v); got != nil {
			t.Errorf("Places of %d: %v", v, got)
		}
	}
	// One place has the variable however often it stands there.
	wantPlaces(t, named(neg(x, x)), 1, [][]int{{0}})
	wantPlaces(t, named(api.Cond{Kind: api.Pos, T: [3]api.Term{on, x, x}}, pos(on, on), ncc(pos(on, on), ncc(pos(on, on), neg(on, x)))), 1, [][]int{{0}, {2, 1, 1}})
	wantPlaces(t, named(times(16, pos(on, x))...), 1, [][]int{{0}, {1}, {2}, {3}, {4}, {5}, {6}, {7}, {8}, {9}, {10}, {11}, {12}, {13}, {14}, {15}})
	wantPlaces(t, named(ncc(append(times(13, pos(on, on)), ncc(pos(x, x)))...)), 1, [][]int{{0, 13, 0}})
}

// P5.1: no two lists of an answer share memory, nor do two answers.
func TestPlacesShareNothing(t *testing.T) {
	r := named(pos(x, y), ncc(pos(x, z), ncc(neg(x, z), pos(x, x)), pos(x, y), neg(x, x)), pos(x, x))
	want := modelPlaces(r, 1)
	other := Places(r, 1)
	for i := range want {
		got := Places(r, 1)
		full := got[i][:cap(got[i])]
		for j := range full {
			full[j] = -7
		}
		for k := range got {
			if k != i && !slices.Equal(got[k], want[k]) {
				t.Errorf("way %d shares memory with way %d", k, i)
			}
		}
	}
	if !slices.EqualFunc(other, want, slices.Equal[[]int]) {
		t.Error("two answers share memory")
	}
}

// P5.1: two rules are alike if their names are, and their conditions, one by one.
func TestSame(t *testing.T) {
	a, b := pos(x, y), ncc(pos(y, z), ncc(neg(x, z)))
	base := named(a, b, pos(x, x))
	for i, r := range []api.Rule{
		{Name: "R", Conds: base.Conds},
		{Name: "rr", Conds: base.Conds},
		named(a, b),
		named(a, b, pos(x, x), pos(x, x)),
		named(a, pos(x, x), b),
		named(a, b, neg(x, x)),
		named(a, b, pos(x, y)),
		named(a, b, pos(x, sy(1))),
		named(a, b, pos(x, sy(7))),
		named(pos(y, x), b, pos(x, x)),
		named(a, ncc(pos(y, z)), pos(x, x)),
		named(a, ncc(pos(y, z), ncc(pos(x, z))), pos(x, x)),
		named(a, ncc(pos(y, z), ncc(neg(x, z), neg(x, z))), pos(x, x)),
		named(a, ncc(pos(y, z), neg(x, z)), pos(x, x)),
		named(a, ncc(pos(y, z), ncc(neg(z, x))), pos(x, x)),
		named(a, ncc(ncc(neg(x, on)), pos(y, z)), pos(x, x)),
		// Variables are held against each other by their numbers, not by what they mean.
		named(pos(y, x), ncc(pos(x, z), ncc(neg(y, z))), pos(y, y)),
	} {
		check(t, r, api.OK)
		if Same(base, r) || Same(r, base) {
			t.Error(i, "unlike ones are alike")
		}
	}
	if !Same(base, base) || !Same(base, named(a, ncc(pos(y, z), ncc(neg(x, z))), pos(x, x))) {
		t.Error("like ones aren't alike")
	}
	// An empty list and no list are one.
	c := a
	c.Subs = []api.Cond{}
	if !Same(named(a, b), named(c, b)) || !Same(named(c, b), named(a, b)) {
		t.Error("an empty list isn't no list")
	}
}

// P5.1: of all pairs of some rules, those are alike that have one text.
func TestSameAll(t *testing.T) {
	var all []api.Rule
	rules(2, []api.Cond{pos(x, on), neg(on, on), pos(on, on), pos(x, x)}, func(r api.Rule) {
		if Check(r) == api.OK {
			all = append(all, r, api.Rule{Name: "s", Conds: r.Conds[:1]})
		}
	})
	if len(all) < 100 {
		t.Fatalf("%d rules", len(all))
	}
	for _, a := range all {
		for _, b := range all {
			if got, want := Same(a, b), text(a) == text(b); got != want {
				t.Errorf("Same(%s, %s): %v", text(a), text(b), got)
			}
		}
	}
}

// spoil writes over all that is in conditions, and behind them where there is room.
func spoil(l []api.Cond) {
	for _, c := range l {
		spoil(c.Subs)
	}
	full := l[:cap(l)]
	for i := range full {
		full[i] = api.Cond{Kind: 99, T: [3]api.Term{sy(-9), vr(-9), sy(-9)}}
	}
}

// P5.1: a copy is the same, and shares nothing with what it was copied of, nor with another one.
func TestCopy(t *testing.T) {
	inner := ncc(pos(y, y), ncc(neg(x, y), pos(x, on)))
	r := named(pos(x, y), inner, pos(x, x), inner)
	want, part := text(r), textOf([]api.Cond{inner})
	one, two := Copy(r), Copy(r)
	if text(one) != want || !Same(one, r) {
		t.Fatalf("a copy isn't the same: %s", text(one))
	}
	spoil(one.Conds[1].Subs)
	if textOf(one.Conds[3:]) != part || text(r) != want {
		t.Error("two conditions of a copy share memory")
	}
	spoil(one.Conds)
	if text(r) != want || text(two) != want {
		t.Error("a copy that is written into is seen elsewhere")
	}
	spoil(r.Conds)
	if text(two) != want {
		t.Error("what was copied is written into, and seen in the copy")
	}
	c := pos(x, y)
	c.Subs = []api.Cond{}
	if got := Copy(named(c)); got.Conds[0].Subs != nil {
		t.Error("an empty list isn't no list")
	}
}

// P5.1: how many Pos of its own a rule has, not those in its Ncc.
func TestIds(t *testing.T) {
	for _, c := range []struct {
		r    api.Rule
		want int
	}{
		{named(pos(x, y)), 1},
		{named(neg(x, y)), 0},
		{named(ncc(pos(x, y), pos(y, z))), 0},
		{named(pos(x, y), ncc(pos(y, z), ncc(pos(x, z))), pos(x, x), neg(x, x)), 2},
		{named(neg(z, z), pos(x, y), pos(x, y), pos(y, x)), 3},
		{named(times(16, pos(x, y))...), 16},
	} {
		if got := Ids(c.r); got != c.want {
			t.Errorf("Ids(%s): %d; wanted %d", text(c.r), got, c.want)
		}
	}
}

// P5.1: no argument is written into, not even behind its lists.
func TestNothingWrittenInto(t *testing.T) {
	for _, l := range [][]api.Cond{
		{pos(x, y), ncc(pos(y, z), ncc(neg(x, z))), pos(x, x)},
		{neg(x, y), pos(x, y)},
		{ncc(ncc(pos(x, y))), {}},
	} {
		room := append(make([]api.Cond, 0, 8), l...)
		room = append(room, pos(x, y), neg(y, z))
		for i, c := range room {
			subs := append(make([]api.Cond, 0, 8), c.Subs...)
			room[i].Subs = append(subs, pos(z, z))[:len(c.Subs)]
		}
		r := named(room[:len(l)]...)
		all := func() string {
			s := textOf(room)
			for _, c := range room {
				s += textOf(c.Subs[:len(c.Subs)+1])
			}
			return s
		}
		want := all()
		Check(r)
		Places(r, 1)
		Copy(r)
		Same(r, r)
		Ids(r)
		if all() != want {
			t.Errorf("%s is written into", text(r))
		}
	}
}

// What the chapter leaves out ends, and doesn't panic: wrong rules, and such as stand in themselves.
func TestLeftOut(t *testing.T) {
	self := make([]api.Cond, 2)
	self[0], self[1] = ncc(self...), ncc(self...)
	all := []api.Rule{{}, {Name: "r"}, {Name: "", Conds: []api.Cond{pos(x, y)}}, named(api.Cond{}), named(self...), named(neg(x, y), pos(x, y))}
	all = append(all, named(times(100, pos(x, y))...), named(pos(vr(-1), vr(99))), named(api.Cond{Kind: api.Pos, Subs: self}))
	for _, r := range all {
		for _, v := range []int{1, 0, -1, 33, 99, math.MaxInt, math.MinInt} {
			Places(r, v)
		}
		Ids(r)
		Copy(r)
		for _, o := range all {
			Same(r, o)
		}
	}
	if Check(named(self...)) != api.ErrDeep {
		t.Error("what is too deep isn't told to be so")
	}
}

// P5.1: what the example of the chapter says.
func TestExample(t *testing.T) {
	is, red, blue := sy(2), sy(3), sy(4)
	l := []api.Cond{
		{Kind: api.Pos, T: [3]api.Term{x, is, red}},
		{Kind: api.Neg, T: [3]api.Term{x, on, y}},
		{Kind: api.Pos, T: [3]api.Term{y, is, blue}},
	}
	check(t, named(l...), api.ErrScope)
	check(t, named(l[0], l[2], l[1]), api.OK)
	check(t, named(l[:2]...), api.OK)
}
