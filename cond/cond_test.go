package cond

import (
	"fmt"
	"math"
	"slices"
	"strings"
	"testing"

	"retiary/api"
)

// sym and vr are a symbol and a variable.
func sym(n int) api.Term { return api.Term{N: n} }
func vr(n int) api.Term  { return api.Term{Var: true, N: n} }

// pos, neg and ncc are conditions of those kinds.
func pos(a, b, c api.Term) api.Cond { return api.Cond{Kind: api.Pos, T: [3]api.Term{a, b, c}} }
func neg(a, b, c api.Term) api.Cond { return api.Cond{Kind: api.Neg, T: [3]api.Term{a, b, c}} }
func ncc(subs ...api.Cond) api.Cond { return api.Cond{Kind: api.Ncc, Subs: subs} }

// text is all that a condition is, as a text: two are alike if their texts are.
func text(c api.Cond) string {
	var b strings.Builder
	fmt.Fprint(&b, c.Kind)
	for _, x := range c.T {
		fmt.Fprint(&b, " ", x.Var, x.N)
	}
	b.WriteString("(")
	for _, s := range c.Subs {
		b.WriteString(text(s))
	}
	b.WriteString(")")
	return b.String()
}

// faults is all that is wrong with a condition and with what is in it, in the order in which the chapter names it.
func faults(c api.Cond, depth int) []api.Errno {
	var all []api.Errno
	if depth > 3 {
		all = append(all, api.ErrDeep)
	}
	if c.Kind < 1 || c.Kind > 3 {
		all = append(all, api.ErrKind)
	}
	for _, x := range c.T {
		right := x.N >= 1 && (x.Var && x.N <= 32 || !x.Var && x.N <= 4096)
		if c.Kind != 3 && !right || c.Kind == 3 && (x.Var || x.N != 0) {
			all = append(all, api.ErrTerm)
		}
	}
	if c.Kind != 3 {
		if len(c.Subs) > 0 {
			all = append(all, api.ErrTerm)
		}
		return all
	}
	if len(c.Subs) == 0 {
		all = append(all, api.ErrEmpty)
	}
	for _, s := range c.Subs {
		all = append(all, faults(s, depth+1)...)
	}
	return all
}

// modelCheck is what Check is to answer.
func modelCheck(c api.Cond, depth int) api.Errno {
	if depth < 1 {
		depth = 1
	}
	if all := faults(c, depth); len(all) > 0 {
		return all[0]
	}
	return api.OK
}

// flat is a condition and all that are in it, as they are written.
func flat(c api.Cond) []api.Cond {
	all := []api.Cond{c}
	for _, s := range c.Subs {
		all = append(all, flat(s)...)
	}
	return all
}

// leaves is conditions without an Ncc that is right, wrong ones of all sorts among them.
func leaves() []api.Cond {
	right := pos(vr(3), sym(9), vr(1))
	return []api.Cond{
		right,
		neg(vr(32), vr(32), sym(4096)),
		pos(sym(1), sym(2), sym(4097)),
		{},
		{Kind: 4, T: right.T},
		{Kind: api.Neg, T: right.T, Subs: []api.Cond{right}},
		{Kind: api.Neg, T: right.T, Subs: []api.Cond{}},
		ncc(),
		{Kind: api.Ncc, T: right.T},
		{Kind: api.Ncc, T: right.T, Subs: []api.Cond{right}},
		{Kind: 7, Subs: []api.Cond{{}}},
	}
}

// above is Nccs with one or two Subs of those handed in.
func above(l []api.Cond) []api.Cond {
	var all []api.Cond
	for _, a := range l {
		all = append(all, ncc(a))
		for _, b := range l {
			all = append(all, ncc(a, b))
		}
	}
	return all
}

// every is conditions of up to four levels, right and wrong ones.
func every() []api.Cond {
	one := leaves()
	two := above(one)
	all := append(slices.Clone(one), two...)
	// Some of the lower ones, each beside a right and a wrong one.
	for level := 0; level < 2; level++ {
		var next []api.Cond
		for i, c := range two {
			next = append(next, ncc(c))
			next = append(next, ncc(one[0], c), ncc(c, one[i%len(one)]), ncc(one[i%len(one)], c))
		}
		all = append(all, next...)
		two = next
	}
	return all
}

// rightOnes is conditions that are right at the depth 1, unlike each other.
func rightOnes() []api.Cond {
	low := []api.Cond{
		pos(sym(1), sym(2), sym(4096)),
		neg(sym(1), sym(2), sym(4096)),
		pos(vr(1), sym(2), sym(4096)),
		pos(sym(2), sym(1), sym(4096)),
		pos(sym(1), sym(2), vr(32)),
		neg(vr(32), vr(9), vr(10)),
		pos(vr(9), vr(9), vr(9)),
	}
	all := append(slices.Clone(low), above(low)...)
	for i, c := range above(low[:4]) {
		all = append(all, ncc(c), ncc(c, low[i%7]), ncc(low[i%7], c), ncc(c, c), ncc(low[6], low[6], c))
	}
	all = append(all, ncc(low...), ncc(ncc(low...), ncc(low[1:]...), low[0]))
	return all
}

// check wants that Check answers that.
func check(t *testing.T, c api.Cond, depth int, want api.Errno) {
	t.Helper()
	if got := Check(c, depth); got != want {
		t.Errorf("Check(%s, %d): %d; wanted %d", text(c), depth, got, want)
	}
}

// P4.1: conditions of all sorts, at depths from below 1 to beyond 3: the first thing that is wrong.
func TestCheckAll(t *testing.T) {
	told := map[api.Errno]int{}
	for _, c := range every() {
		for depth := -1; depth <= 5; depth++ {
			want := modelCheck(c, depth)
			told[want]++
			check(t, c, depth, want)
		}
	}
	for _, e := range []api.Errno{api.OK, api.ErrDeep, api.ErrKind, api.ErrTerm, api.ErrEmpty} {
		if told[e] == 0 {
			t.Errorf("%d was never to be told", e)
		}
	}
}

// P4.1: what is below 1 counts as 1; 3 may be, 4 and all above may not.
func TestCheckDepth(t *testing.T) {
	one := pos(vr(1), sym(1), vr(1))
	two := ncc(one)
	three := ncc(one, two)
	four := ncc(three)
	for _, depth := range []int{math.MinInt, math.MinInt + 1, -1 << 32, -7, -1, 0, 1} {
		check(t, one, depth, api.OK)
		check(t, two, depth, api.OK)
		check(t, three, depth, api.OK)
		check(t, four, depth, api.ErrDeep)
	}
	check(t, one, 2, api.OK)
	check(t, two, 2, api.OK)
	check(t, three, 2, api.ErrDeep)
	check(t, one, 3, api.OK)
	check(t, two, 3, api.ErrDeep)
	for _, depth := range []int{4, 5, 1 << 32, 1<<32 + 1, math.MaxInt - 1, math.MaxInt} {
		check(t, one, depth, api.ErrDeep)
		check(t, two, depth, api.ErrDeep)
		check(t, api.Cond{}, depth, api.ErrDeep)
	}
}

// P4.1: three kinds there are, and no others.
func TestCheckKind(t *testing.T) {
	l := pos(vr(1), sym(2), sym(3)).T
	for k := -300; k <= 300; k++ {
		leaf, above := api.ErrKind, api.ErrKind
		switch k {
		case 1, 2:
			leaf, above = api.OK, api.ErrTerm
		case 3:
			leaf, above = api.ErrTerm, api.OK
		}
		check(t, api.Cond{Kind: k, T: l}, 1, leaf)
		check(t, api.Cond{Kind: k, Subs: []api.Cond{{Kind: api.Pos, T: l}}}, 1, above)
	}
	for _, k := range []int{math.MinInt, math.MaxInt, 1<<8 + 1, 1<<32 + 1, 1<<32 + 2, 1<<32 + 3} {
		check(t, api.Cond{Kind: k, T: l}, 1, api.ErrKind)
	}
}

// P4.1: a symbol is from 1 to 4096, a variable from 1 to 32, in each field of a Pos and of a Neg, at each depth.
func TestCheckTerms(t *testing.T) {
	for n := -40; n <= 4200; n++ {
		for f := 0; f < 3; f++ {
			checkTerm(t, f, sym(n), n >= 1 && n <= 4096)
			checkTerm(t, f, vr(n), n >= 1 && n <= 32)
		}
	}
	for _, n := range []int{math.MinInt, math.MaxInt, 1<<32 + 1, 1<<16 + 1, -4096, -32} {
		for f := 0; f < 3; f++ {
			checkTerm(t, f, sym(n), false)
			checkTerm(t, f, vr(n), false)
		}
	}
}

// checkTerm wants that conditions with that term in that field are right, or that their terms are wrong.
func checkTerm(t *testing.T, f int, x api.Term, right bool) {
	t.Helper()
	want := api.OK
	if !right {
		want = api.ErrTerm
	}
	for _, kind := range []int{api.Pos, api.Neg} {
		c := api.Cond{Kind: kind, T: [3]api.Term{sym(1), vr(1), sym(1)}}
		c.T[f] = x
		check(t, c, 1, want)
		check(t, ncc(c), 1, want)
		check(t, ncc(ncc(c)), 1, want)
	}
}

// P4.1: all terms of an Ncc are zero, neither symbols nor variables nor wrong ones.
func TestCheckNccTerms(t *testing.T) {
	right := pos(vr(1), sym(1), vr(1))
	check(t, ncc(right), 1, api.OK)
	for f := 0; f < 3; f++ {
		for _, x := range []api.Term{sym(1), sym(4096), sym(4097), sym(-1), vr(1), vr(32), vr(33), vr(0), vr(-1), sym(math.MinInt)} {
			c := ncc(right)
			c.T[f] = x
			check(t, c, 1, api.ErrTerm)
			check(t, ncc(c), 1, api.ErrTerm)
			c.Subs = nil
			check(t, c, 1, api.ErrTerm)
		}
	}
}

// P4.1: a Pos and a Neg have no Subs, neither right nor wrong ones; an empty list is none.
func TestCheckSubs(t *testing.T) {
	right := pos(vr(1), sym(1), vr(1))
	for _, kind := range []int{api.Pos, api.Neg} {
		c := api.Cond{Kind: kind, T: right.T, Subs: []api.Cond{}}
		check(t, c, 1, api.OK)
		c.Subs = make([]api.Cond, 0, 3)
		check(t, c, 1, api.OK)
		for _, subs := range [][]api.Cond{{right}, {{}}, {ncc()}, {right, right}} {
			c.Subs = subs
			check(t, c, 1, api.ErrTerm)
			check(t, c, 3, api.ErrTerm)
			check(t, ncc(c), 1, api.ErrTerm)
		}
	}
	check(t, api.Cond{Kind: api.Ncc}, 1, api.ErrEmpty)
	check(t, api.Cond{Kind: api.Ncc, Subs: make([]api.Cond, 0, 3)}, 1, api.ErrEmpty)
	check(t, ncc(ncc()), 1, api.ErrEmpty)
	check(t, ncc(ncc(ncc())), 1, api.ErrEmpty)
	check(t, ncc(), 3, api.ErrEmpty)
}

// P4.1: where several things are wrong with one condition, the one named first is told.
func TestCheckFirstThing(t *testing.T) {
	bad := [3]api.Term{sym(1), vr(33), sym(0)}
	right := pos(vr(1), sym(1), vr(1))
	check(t, api.Cond{Kind: 9, T: bad, Subs: []api.Cond{{}}}, 4, api.ErrDeep)
	check(t, api.Cond{Kind: api.Pos, T: bad}, 4, api.ErrDeep)
	check(t, api.Cond{Kind: api.Pos, T: bad, Subs: []api.Cond{{}}}, 4, api.ErrDeep)
	check(t, ncc(), 4, api.ErrDeep)
	check(t, api.Cond{Kind: 9, T: bad, Subs: []api.Cond{{}}}, 3, api.ErrKind)
	check(t, api.Cond{Kind: 0, Subs: []api.Cond{right}}, 1, api.ErrKind)
	check(t, api.Cond{Kind: api.Ncc, T: bad}, 1, api.ErrTerm)
	check(t, api.Cond{Kind: api.Ncc, T: bad, Subs: []api.Cond{{}}}, 1, api.ErrTerm)
	check(t, api.Cond{Kind: api.Ncc, T: bad, Subs: []api.Cond{{}}}, 3, api.ErrTerm)
	check(t, ncc(), 3, api.ErrEmpty)
}

// P4.1: of several wrong Subs the first one is told, however deep it stands, and however much comes behind.
func TestCheckFirstSub(t *testing.T) {
	right := pos(vr(1), sym(1), vr(1))
	wrong := map[api.Errno]api.Cond{
		api.ErrKind:  {},
		api.ErrTerm:  {Kind: api.Neg},
		api.ErrEmpty: ncc(),
		api.ErrDeep:  ncc(ncc(right)),
	}
	for e, c := range wrong {
		check(t, ncc(c), 1, e)
		check(t, ncc(right, right, c), 1, e)
		check(t, ncc(c, right), 1, e)
		check(t, ncc(right, ncc(right), c), 1, e)
		for _, d := range wrong {
			check(t, ncc(c, d), 1, e)
			check(t, ncc(right, c, right, d), 1, e)
		}
	}
	// A Sub of the first Sub comes ahead of the second one.
	check(t, ncc(ncc(right, api.Cond{}), ncc()), 1, api.ErrKind)
	check(t, ncc(ncc(ncc(api.Cond{})), ncc()), 1, api.ErrDeep)
	check(t, ncc(ncc(right), ncc(), api.Cond{}), 1, api.ErrEmpty)
	// What is below another depth doesn't count towards that of what is behind.
	check(t, ncc(ncc(right), ncc(right), right, ncc(right)), 1, api.OK)
}

// P4.1: however many Subs there are, Check has nothing against them.
func TestCheckWide(t *testing.T) {
	subs := make([]api.Cond, 1000)
	for i := range subs {
		subs[i] = neg(sym(i+1), vr(i%32+1), sym(1))
	}
	check(t, ncc(subs...), 1, api.OK)
	check(t, ncc(ncc(subs...), ncc(subs...)), 1, api.OK)
	if n := Size(ncc(ncc(subs...), ncc(subs...))); n != 2003 {
		t.Errorf("Size of 2003: %d", n)
	}
	if vars := Vars(ncc(subs...)); len(vars) != 32 {
		t.Errorf("Vars of 32: %v", vars)
	}
	subs[999].Kind = 0
	check(t, ncc(subs...), 1, api.ErrKind)
}

// P4.1: of right conditions, how many there are in them.
func TestSize(t *testing.T) {
	for _, c := range rightOnes() {
		if got, want := Size(c), len(flat(c)); got != want {
			t.Errorf("Size(%s): %d; wanted %d", text(c), got, want)
		}
	}
	one := pos(vr(1), sym(1), vr(1))
	for _, x := range []struct {
		c    api.Cond
		want int
	}{{one, 1}, {neg(vr(1), sym(1), vr(1)), 1}, {ncc(one), 2}, {ncc(one, one), 3}, {ncc(ncc(one)), 3}, {ncc(one, ncc(one, one), one), 6}} {
		if got := Size(x.c); got != x.want {
			t.Errorf("Size(%s): %d; wanted %d", text(x.c), got, x.want)
		}
	}
}

// modelVars is what Vars is to answer.
func modelVars(c api.Cond) []int {
	var want []int
	for v := 1; v <= 32; v++ {
		if strings.Contains(text(c), fmt.Sprint(" ", true, v, " ")) || strings.Contains(text(c), fmt.Sprint(" ", true, v, "(")) {
			want = append(want, v)
		}
	}
	return want
}

// P4.1: of right conditions, each variable once, rising; no symbol.
func TestVars(t *testing.T) {
	for _, c := range rightOnes() {
		if got, want := Vars(c), modelVars(c); !slices.Equal(got, want) {
			t.Errorf("Vars(%s): %v; wanted %v", text(c), got, want)
		}
	}
	for _, x := range []struct {
		c    api.Cond
		want []int
	}{
		{pos(sym(1), sym(2), sym(3)), nil},
		{pos(vr(32), vr(9), vr(10)), []int{9, 10, 32}},
		{neg(vr(5), sym(3), vr(5)), []int{5}},
		{ncc(pos(vr(7), sym(1), vr(2)), neg(vr(2), vr(1), vr(7))), []int{1, 2, 7}},
		{ncc(ncc(pos(vr(10), sym(1), sym(1))), neg(vr(9), sym(4), sym(4)), ncc(neg(vr(10), vr(8), vr(9)))), []int{8, 9, 10}},
		{ncc(ncc(pos(sym(1), sym(1), sym(1)))), nil},
	} {
		if got := Vars(x.c); !slices.Equal(got, x.want) {
			t.Errorf("Vars(%s): %v; wanted %v", text(x.c), got, x.want)
		}
	}
	for v := 1; v <= 32; v++ {
		if got := Vars(ncc(ncc(neg(sym(v), vr(v), sym(v))))); !slices.Equal(got, []int{v}) {
			t.Errorf("Vars of %d: %v", v, got)
		}
	}
}

// P4.1: of all pairs of right conditions, those are alike that have one text.
func TestSameAll(t *testing.T) {
	all := rightOnes()
	texts := make([]string, len(all))
	for i, c := range all {
		texts[i] = text(c)
	}
	for i, a := range all {
		for j, b := range all {
			if got := Same(a, b); got != (texts[i] == texts[j]) {
				t.Errorf("Same(%s, %s): %v", texts[i], texts[j], got)
			}
		}
	}
}

// P4.1: two aren't alike if one thing is another one: the kind, a term, how many Subs, their order, or a Sub.
func TestSame(t *testing.T) {
	a, b := pos(vr(1), sym(2), vr(3)), neg(vr(1), sym(2), vr(3))
	like := func(x, y api.Cond) {
		t.Helper()
		if !Same(x, y) || !Same(y, x) {
			t.Errorf("%s and %s aren't alike", text(x), text(y))
		}
	}
	unlike := func(x, y api.Cond) {
		t.Helper()
		if Same(x, y) || Same(y, x) {
			t.Errorf("%s and %s are alike", text(x), text(y))
		}
	}
	like(a, a)
	like(a, pos(vr(1), sym(2), vr(3)))
	unlike(a, b)
	for f := 0; f < 3; f++ {
		for _, x := range []api.Term{sym(1), sym(3), vr(2), sym(4096), vr(32)} {
			c := a
			c.T[f] = x
			if c.T[f] != a.T[f] {
				unlike(a, c)
				unlike(ncc(b, a), ncc(b, c))
				unlike(ncc(ncc(b, a)), ncc(ncc(b, c)))
			}
		}
	}
	// Variables are held against each other by their numbers, not by what they mean.
	unlike(pos(vr(1), sym(2), vr(1)), pos(vr(2), sym(2), vr(2)))
	like(ncc(a, b), ncc(a, b))
	unlike(ncc(a, b), ncc(b, a))
	unlike(ncc(a), ncc(a, a))
	unlike(ncc(a, b), ncc(a))
	unlike(a, ncc(a))
	unlike(ncc(a), ncc(ncc(a)))
	unlike(ncc(ncc(a), b), ncc(ncc(a, b)))
	unlike(ncc(a, ncc(b)), ncc(ncc(a), b))
}

// P4.1: an empty list and no list are one.
func TestSameEmpty(t *testing.T) {
	a := pos(vr(1), sym(2), vr(3))
	b := a
	b.Subs = []api.Cond{}
	if !Same(a, b) || !Same(b, a) || !Same(ncc(a), ncc(b)) || !Same(Copy(b), a) || Copy(b).Subs != nil || Size(b) != 1 || !slices.Equal(Vars(b), []int{1, 3}) {
		t.Error("an empty list isn't no list")
	}
}

// P4.1: a copy is the same.
func TestCopy(t *testing.T) {
	for _, c := range rightOnes() {
		if got := Copy(c); text(got) != text(c) || !Same(got, c) {
			t.Errorf("Copy(%s): %s", text(c), text(got))
		}
	}
}

// spoil writes over all that is in a condition, and behind its lists where there is room.
func spoil(c *api.Cond) {
	for i := range c.Subs {
		spoil(&c.Subs[i])
	}
	full := c.Subs[:cap(c.Subs)]
	for i := range full {
		full[i] = api.Cond{Kind: 99, T: [3]api.Term{sym(-9), vr(-9), sym(-9)}}
	}
	c.Kind = 98
}

// P4.1: what is written into a copy isn't seen in what it was copied of, nor the other way round, nor in another copy.
func TestCopySharesNothing(t *testing.T) {
	for i := range rightOnes() {
		c := rightOnes()[i]
		want := text(c)
		one, two := Copy(c), Copy(c)
		spoil(&one)
		if text(c) != want || text(two) != want {
			t.Fatalf("Copy(%s): a copy that is written into is seen elsewhere", want)
		}
		three := Copy(c)
		spoil(&c)
		if text(two) != want || text(three) != want {
			t.Fatalf("Copy(%s): what was copied is written into, and seen in the copy", want)
		}
	}
}

// P4.1: a Sub that stands in two places is two in a copy.
func TestCopyTwoPlaces(t *testing.T) {
	inner := ncc(pos(vr(1), sym(2), vr(3)))
	c := Copy(ncc(inner, inner))
	want := text(inner)
	spoil(&c.Subs[0])
	if text(c.Subs[1]) != want || text(inner) != want {
		t.Error("two Subs of a copy share memory")
	}
}

// P4.1: no answer of Vars shares memory with another one.
func TestVarsSharesNothing(t *testing.T) {
	c := ncc(pos(vr(3), vr(1), vr(2)), neg(vr(9), vr(3), sym(1)))
	first := Vars(c)
	for i := range first {
		first[i] = -7
	}
	if got := Vars(c); !slices.Equal(got, []int{1, 2, 3, 9}) {
		t.Errorf("Vars: %v", got)
	}
}

// P4.1: no argument is written into, not even behind its lists.
func TestNothingWrittenInto(t *testing.T) {
	for _, c := range append(every()[:200], rightOnes()...) {
		room := append(make([]api.Cond, 0, len(c.Subs)+2), c.Subs...)
		room = append(room, pos(vr(1), vr(2), vr(3)), neg(vr(4), vr(5), vr(6)))
		if c.Subs != nil {
			c.Subs = room[:len(c.Subs)]
		}
		want, behind := text(c), text(ncc(room...))
		Check(c, 1)
		Size(c)
		Vars(c)
		Same(c, c)
		Copy(c)
		if text(c) != want || text(ncc(room...)) != behind {
			t.Fatalf("%s is written into", want)
		}
	}
}

// What the chapter leaves out ends, and doesn't panic: wrong conditions, deep ones, and such as stand in themselves.
func TestLeftOut(t *testing.T) {
	self := make([]api.Cond, 2)
	self[0], self[1] = ncc(self...), ncc(self...)
	wrongSelf := []api.Cond{{}, {Kind: api.Pos}}
	wrongSelf[0].Subs, wrongSelf[1].Subs = wrongSelf, wrongSelf
	deep := pos(vr(1), sym(1), vr(1))
	for i := 0; i < 100; i++ {
		deep = ncc(deep, deep)
	}
	wrong := append(every(), self[0], wrongSelf[0], wrongSelf[1], ncc(wrongSelf...), deep)
	for _, c := range wrong {
		Size(c)
		Vars(c)
		Copy(c)
		Same(c, c)
		Same(c, deep)
	}
	// Neither has a text that ends soon, so they aren't told.
	if Check(self[0], 1) != api.ErrDeep || Check(deep, 1) != api.ErrDeep {
		t.Error("what is too deep isn't told to be so")
	}
}

// P4.1: what the example of the chapter says.
func TestExample(t *testing.T) {
	inner := pos(vr(1), sym(2), vr(3))
	check(t, ncc(ncc(ncc(inner))), 1, api.ErrDeep)
	check(t, ncc(ncc(inner)), 1, api.OK)
}
