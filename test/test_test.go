package test

import (
	"fmt"
	"math"
	"math/rand"
	"slices"
	"testing"

	"retiary/api"
	"retiary/comp"
	"retiary/scope"
	"retiary/term"
)

// of is a test.
func of(field, back, other int) api.Test { return api.Test{Field: field, Back: back, Other: other} }

// is and no are a Pos and a Neg step.
func is(k api.Triple, tests ...api.Test) api.Step {
	return api.Step{Kind: api.Pos, Key: k, Tests: tests}
}
func no(k api.Triple, tests ...api.Test) api.Step {
	return api.Step{Kind: api.Neg, Key: k, Tests: tests}
}

// sy and vr are a symbol and a variable.
func sy(n int) api.Term { return api.Term{N: n} }
func vr(n int) api.Term { return api.Term{Var: true, N: n} }

// pos, neg and ncc are conditions of those kinds.
func pos(a, b, c api.Term) api.Cond { return api.Cond{Kind: api.Pos, T: [3]api.Term{a, b, c}} }
func neg(a, b, c api.Term) api.Cond { return api.Cond{Kind: api.Neg, T: [3]api.Term{a, b, c}} }
func ncc(subs ...api.Cond) api.Cond { return api.Cond{Kind: api.Ncc, Subs: subs} }

// triples is triples one behind the other.
func triples(l ...api.Triple) []api.Triple { return l }

// modelHolds is what the chapter says of a test, plainly.
func modelHolds(x api.Test, back []api.Triple, t api.Triple) bool {
	if x.Back == -1 {
		return t[x.Field] == t[x.Other]
	}
	for i, b := range back {
		if i == x.Back && t[x.Field] == b[x.Other] {
			return true
		}
	}
	return false
}

// modelMeets is what the chapter says of a step, plainly.
func modelMeets(s api.Step, back []api.Triple, t api.Triple) bool {
	if s.Kind == api.Ncc {
		return false
	}
	for i := range 3 {
		if s.Key[i] > 0 && s.Key[i] != t[i] {
			return false
		}
	}
	for _, x := range s.Tests {
		if !modelHolds(x, back, t) {
			return false
		}
	}
	return true
}

// modelWhich is what the chapter says of facts, plainly.
func modelWhich(s api.Step, back []api.Triple, facts []api.Fact) []int {
	var ids []int
	for i := range facts {
		if modelMeets(s, back, facts[i].T) {
			ids = append(ids, facts[i].Id)
		}
	}
	return ids
}

// cube is all triples whose fields are some of these.
func cube(of ...int) []api.Triple {
	var all []api.Triple
	for _, a := range of {
		for _, b := range of {
			for _, c := range of {
				all = append(all, api.Triple{a, b, c})
			}
		}
	}
	return all
}

// eight is a triple's keys.
func eight(t api.Triple) []api.Triple {
	a, b, c := t[0], t[1], t[2]
	return []api.Triple{{0, 0, 0}, {a, 0, 0}, {0, b, 0}, {a, b, 0}, {0, 0, c}, {a, 0, c}, {0, b, c}, {a, b, c}}
}

// testLists is all lists of a right step's tests whose Back is at most that.
func testLists(most int) [][]api.Test {
	lists := [][]api.Test{nil}
	for field := range 3 {
		for _, l := range slices.Clone(lists) {
			for back := -1; back <= most; back++ {
				for other := range 3 {
					if back >= 0 || other < field {
						lists = append(lists, append(slices.Clone(l), of(field, back, other)))
					}
				}
			}
		}
	}
	return lists
}

// wantHolds wants of a test what the model says.
func wantHolds(t *testing.T, x api.Test, back []api.Triple, a api.Triple) {
	t.Helper()
	if got, want := Holds(x, back, a), modelHolds(x, back, a); got != want {
		t.Fatalf("Holds(%v, %v, %v) is %v", x, back, a, got)
	}
}

// wantMeets wants of a step what the model says.
func wantMeets(t *testing.T, s api.Step, back []api.Triple, a api.Triple) {
	t.Helper()
	if got, want := Meets(s, back, a), modelMeets(s, back, a); got != want {
		t.Fatalf("Meets(%v, %v, %v) is %v", s, back, a, got)
	}
}

// wantWhich wants of facts what the model says.
func wantWhich(t *testing.T, s api.Step, back []api.Triple, facts []api.Fact) {
	t.Helper()
	if got, want := Which(s, back, facts), modelWhich(s, back, facts); !slices.Equal(got, want) {
		t.Fatalf("Which(%v, %v, %v) is %v, want %v", s, back, facts, got, want)
	}
}

// P13.1: what the chapter's example says.
func TestExample(t *testing.T) {
	x, back, a := of(0, 0, 2), triples(api.Triple{1, 2, 3}), api.Triple{3, 9, 9}
	if !Holds(x, back, a) || !Meets(is(api.Triple{}, x), back, a) || !Meets(no(api.Triple{}, x), back, a) {
		t.Error("3 9 9 doesn't meet it")
	}
	if Holds(x, back, api.Triple{9, 3, 3}) || Meets(is(api.Triple{}, x), back, api.Triple{9, 3, 3}) {
		t.Error("9 3 3 meets it")
	}
}

// P13.1: a field against another field of the same triple, each pair of fields, alike and not; earlier triples don't matter.
func TestHoldsSame(t *testing.T) {
	backs := [][]api.Triple{nil, {}, triples(api.Triple{1, 1, 1}), triples(api.Triple{1, 2, 3}, api.Triple{2, 3, 1})}
	for _, back := range backs {
		for _, a := range append(cube(1, 2, 3), cube(4095, 4096)...) {
			for field := range 3 {
				for other := range 3 {
					if got := Holds(of(field, -1, other), back, a); got != (a[field] == a[other]) {
						t.Errorf("Holds of the fields %d and %d of %v behind %v is %v", field, other, a, back, got)
					}
				}
			}
		}
	}
}

// P13.1: pairs of fields of the same triple, written out.
func TestHoldsSameWritten(t *testing.T) {
	for _, c := range []struct {
		a                api.Triple
		second, far, end bool // 1 and 0, 2 and 0, 2 and 1
	}{
		{api.Triple{5, 5, 5}, true, true, true}, {api.Triple{5, 5, 6}, true, false, false}, {api.Triple{5, 6, 5}, false, true, false},
		{api.Triple{5, 6, 6}, false, false, true}, {api.Triple{5, 6, 7}, false, false, false}, {api.Triple{1, 4096, 1}, false, true, false},
	} {
		second, far, end := Holds(of(1, -1, 0), nil, c.a), Holds(of(2, -1, 0), nil, c.a), Holds(of(2, -1, 1), nil, c.a)
		if second != c.second || far != c.far || end != c.end {
			t.Error(c.a, second, far, end)
		}
	}
}

// P13.1: each field against each field of each earlier triple: it holds for that symbol, and for no other one that is there.
func TestHoldsEarlier(t *testing.T) {
	for size := 1; size <= 16; size++ {
		// All that is there is unlike, so that no other place does for one.
		var back []api.Triple
		for i := range size {
			back = append(back, api.Triple{3*i + 1, 3*i + 2, 3*i + 3})
		}
		for field := range 3 {
			for i := range size {
				for other := range 3 {
					for sym := 1; sym <= 3*size+1; sym++ {
						a := api.Triple{4000, 4001, 4002}
						a[field] = sym
						if got := Holds(of(field, i, other), back, a); got != (sym == 3*i+other+1) {
							t.Fatalf("Holds(%v, %v, %v) is %v", of(field, i, other), back, a, got)
						}
					}
				}
			}
		}
	}
}

// P13.1: the other fields don't matter, neither those of the triple nor those of the earlier ones.
func TestHoldsOtherFields(t *testing.T) {
	all := cube(1, 2)
	for _, first := range all {
		for _, last := range all {
			back := triples(first, last)
			for _, a := range all {
				for field := range 3 {
					for other := range 3 {
						for i := range 4 {
							wantHolds(t, of(field, i, other), back, a)
						}
					}
				}
			}
		}
	}
}

// P13.1: a test of an earlier triple that isn't there doesn't hold, whatever the triple is; behind none, either.
func TestHoldsNotThere(t *testing.T) {
	for size := range 16 {
		back := slices.Repeat(triples(api.Triple{1, 1, 1}), size)
		// There may be room behind the list, with something in it that would do.
		room := slices.Repeat(triples(api.Triple{1, 1, 1}), 20)[:size]
		for i := size; i <= 20; i++ {
			for field := range 3 {
				for other := range 3 {
					for _, a := range cube(1, 2) {
						if Holds(of(field, i, other), back, a) || Holds(of(field, i, other), room, a) {
							t.Fatalf("%v holds for %v behind %d", of(field, i, other), a, size)
						}
					}
				}
			}
			if Meets(is(api.Triple{}, of(0, i, 0)), back, api.Triple{1, 1, 1}) || Meets(no(api.Triple{}, of(0, i, 0)), room, api.Triple{1, 1, 1}) {
				t.Fatalf("a step is met behind %d", size)
			}
		}
	}
	for _, i := range []int{math.MinInt, -1 << 32, -17, -2, 1 << 32, math.MaxInt} {
		if Holds(of(2, i, 0), cube(1, 2), api.Triple{1, 1, 1}) {
			t.Errorf("Back %d holds", i)
		}
	}
	for _, back := range [][]api.Triple{nil, {}} {
		for i := range 16 {
			if Holds(of(2, i, 2), back, api.Triple{}) || Holds(of(0, i, 1), back, api.Triple{1, 1, 1}) {
				t.Fatalf("Back %d holds behind nothing", i)
			}
		}
	}
}

// P13.1: with no tests a step is met by just the triples that have its key, each kind of key.
func TestMeetsKey(t *testing.T) {
	all := append(cube(1, 2, 3), api.Triple{4096, 1, 4095}, api.Triple{4095, 1, 4096}, api.Triple{4096, 4096, 4096})
	for _, back := range [][]api.Triple{nil, {}, all[:2]} {
		for _, tests := range [][]api.Test{nil, {}} {
			for _, from := range all {
				for n, k := range eight(from) {
					for _, a := range all {
						want := (n&1 == 0 || a[0] == from[0]) && (n&2 == 0 || a[1] == from[1]) && (n&4 == 0 || a[2] == from[2])
						if Meets(is(k, tests...), back, a) != want || Meets(no(k, tests...), back, a) != want {
							t.Fatalf("%v meets a step of the key %v: %v", a, k, !want)
						}
					}
				}
			}
		}
	}
}

// P13.1: all tests must hold: with up to three, each choice of those that do.
func TestMeetsTests(t *testing.T) {
	back := triples(api.Triple{1, 2, 3}, api.Triple{4, 5, 6})
	tests := []api.Test{of(0, 0, 2), of(1, 1, 1), of(2, 1, 0)}
	right := api.Triple{3, 5, 4}
	for n := range 8 {
		a := right
		for f := range 3 {
			if n&(1<<f) != 0 {
				a[f] = 9
			}
		}
		for asked := range 8 {
			var some []api.Test
			for f := range 3 {
				if asked&(1<<f) != 0 {
					some = append(some, tests[f])
				}
			}
			// It is met if none of those that are asked is one of those that don't hold.
			if want := n&asked == 0; Meets(is(api.Triple{}, some...), back, a) != want || Meets(no(api.Triple{}, some...), back, a) != want {
				t.Errorf("%v with %v: %v", a, some, !want)
			}
		}
	}
}

// P13.1: a triple that has not the key doesn't meet the step, though its tests hold, and one that has it doesn't if a test doesn't hold.
func TestMeetsBoth(t *testing.T) {
	back := triples(api.Triple{1, 2, 3})
	for _, s := range []api.Step{is(api.Triple{0, 7, 0}, of(0, 0, 2), of(2, -1, 0)), no(api.Triple{0, 7, 0}, of(0, 0, 2), of(2, -1, 0))} {
		for _, c := range []struct {
			a    api.Triple
			want bool
		}{
			{api.Triple{3, 7, 3}, true}, {api.Triple{3, 8, 3}, false}, {api.Triple{3, 7, 1}, false}, {api.Triple{1, 7, 1}, false},
			{api.Triple{1, 7, 3}, false}, {api.Triple{1, 8, 2}, false}, {api.Triple{3, 3, 3}, false},
		} {
			if got := Meets(s, back, c.a); got != c.want {
				t.Errorf("Meets(%v, %v, %v) is %v", s, back, c.a, got)
			}
		}
	}
	// A test may be of a field in which the key has a symbol: then both are asked of it.
	s := is(api.Triple{0, 7, 0}, of(1, 0, 1))
	if Meets(s, back, api.Triple{1, 7, 1}) || Meets(s, back, api.Triple{1, 2, 1}) || !Meets(s, triples(api.Triple{1, 7, 3}), api.Triple{1, 7, 1}) {
		t.Error("a field with a symbol and a test")
	}
}

// P13.1: all lists of tests, with keys of each kind, behind one and two triples, of Pos and of Neg: they are met alike.
func TestMeetsAll(t *testing.T) {
	all := cube(1, 2)
	backs := [][]api.Triple{nil, triples(api.Triple{1, 2, 2}), triples(api.Triple{2, 1, 1}, api.Triple{1, 2, 1})}
	for _, tests := range testLists(1) {
		for _, k := range cube(0, 1, 2) {
			for _, back := range backs {
				for _, a := range all {
					wantMeets(t, is(k, tests...), back, a)
					if Meets(is(k, tests...), back, a) != Meets(no(k, tests...), back, a) {
						t.Fatalf("a Pos and a Neg of %v, %v: not the same for %v behind %v", k, tests, a, back)
					}
				}
			}
		}
	}
}

// P13.1: an Ncc isn't met, by whatever triple, whatever is in it.
func TestMeetsNcc(t *testing.T) {
	low := is(api.Triple{})
	for _, s := range []api.Step{
		{Kind: api.Ncc, Subs: []api.Step{low}}, {Kind: api.Ncc, Subs: []api.Step{no(api.Triple{1, 0, 0}), low}},
		{Kind: api.Ncc, Subs: []api.Step{{Kind: api.Ncc, Subs: []api.Step{low}}}},
	} {
		for _, back := range [][]api.Triple{nil, cube(1, 2)} {
			for _, a := range append(cube(0, 1, 2), api.Triple{4096, 4096, 4096}) {
				if Meets(s, back, a) {
					t.Errorf("%v meets an Ncc", a)
				}
				if l := Which(s, back, []api.Fact{{Id: 1, T: a}, {Id: 2, T: a}}); len(l) != 0 {
					t.Errorf("Which of an Ncc is %v", l)
				}
			}
		}
	}
}

// P13.1: more earlier triples behind those that the tests ask for change nothing.
func TestMoreBehind(t *testing.T) {
	all := cube(1, 2)
	for _, tests := range testLists(1) {
		for _, back := range [][]api.Triple{triples(api.Triple{1, 2, 2}, api.Triple{2, 2, 1}), triples(api.Triple{2, 1, 2}, api.Triple{1, 1, 2})} {
			for _, a := range all {
				want := Meets(is(api.Triple{}, tests...), back, a)
				for size := range len(all) + 1 {
					more := append(slices.Clone(back), all[:size]...)
					if Meets(is(api.Triple{}, tests...), more, a) != want || Meets(no(api.Triple{}, tests...), more, a) != want {
						t.Fatalf("%v with %v behind %v isn't as behind %v", a, tests, more, back)
					}
					for _, x := range tests {
						if Holds(x, more, a) != Holds(x, back, a) {
							t.Fatalf("%v of %v behind %v isn't as behind %v", x, a, more, back)
						}
					}
				}
			}
		}
	}
}

// P13.1: with no facts, an empty list or none, nothing meets a step.
func TestWhichNothing(t *testing.T) {
	for _, s := range []api.Step{is(api.Triple{}), no(api.Triple{}), is(api.Triple{1, 0, 0}, of(1, 0, 0))} {
		for _, facts := range [][]api.Fact{nil, {}, make([]api.Fact, 0, 9)} {
			if l := Which(s, triples(api.Triple{1, 1, 1}), facts); len(l) != 0 {
				t.Error(l)
			}
		}
	}
}

// P13.1: the ids come in the order of the facts, whatever that is, of alike facts each, and the same id twice if it stands there twice.
func TestWhichOrder(t *testing.T) {
	in, out := api.Triple{1, 7, 2}, api.Triple{1, 8, 2}
	s := is(api.Triple{0, 7, 0}, of(0, 0, 1))
	back := triples(api.Triple{5, 1, 5})
	for _, c := range []struct {
		ids  []int
		keep []bool
		want []int
	}{
		{[]int{1}, []bool{true}, []int{1}},
		{[]int{1}, []bool{false}, nil},
		{[]int{3, 1, 2}, []bool{true, true, true}, []int{3, 1, 2}},
		{[]int{9, 8, 7, 6}, []bool{false, true, false, true}, []int{8, 6}},
		{[]int{4, 4, 2, 4}, []bool{true, true, true, true}, []int{4, 4, 2, 4}},
		{[]int{4, 4, 2}, []bool{true, false, true}, []int{4, 2}},
		{[]int{1, 1024, 0, 5}, []bool{true, true, true, false}, []int{1, 1024, 0}},
		{[]int{math.MaxInt, 1, math.MinInt}, []bool{true, true, true}, []int{math.MaxInt, 1, math.MinInt}},
	} {
		var facts []api.Fact
		for i, id := range c.ids {
			f := api.Fact{Id: id, T: out}
			if c.keep[i] {
				f.T = in
			}
			facts = append(facts, f)
		}
		if got := Which(s, back, facts); !slices.Equal(got, c.want) {
			t.Errorf("Which of %v is %v, want %v", facts, got, c.want)
		}
		s.Kind = 3 - s.Kind
	}
}

// P13.1: all orders of four facts, two of them alike, behind each of a few triples.
func TestWhichOrders(t *testing.T) {
	facts := []api.Fact{{Id: 4, T: api.Triple{1, 2, 1}}, {Id: 2, T: api.Triple{2, 2, 2}}, {Id: 9, T: api.Triple{1, 2, 1}}, {Id: 1, T: api.Triple{1, 1, 2}}}
	for n := range 4 * 4 * 4 * 4 {
		l := []api.Fact{facts[n%4], facts[n/4%4], facts[n/16%4], facts[n/64]}
		for _, back := range append([][]api.Triple{nil}, triples(api.Triple{1, 1, 1}), triples(api.Triple{2, 1, 2})) {
			for _, s := range []api.Step{is(api.Triple{}), is(api.Triple{0, 2, 0}), no(api.Triple{1, 0, 0}, of(2, -1, 0)), is(api.Triple{}, of(0, 0, 2)), no(api.Triple{0, 2, 0}, of(2, 0, 1))} {
				wantWhich(t, s, back, l)
			}
		}
	}
}

// P13.1: many facts, more than a working memory has.
func TestWhichMany(t *testing.T) {
	var facts []api.Fact
	for i := range 5000 {
		facts = append(facts, api.Fact{Id: i * 7 % 5003, T: api.Triple{i%4096 + 1, 7, i%3 + 1}})
	}
	for _, s := range []api.Step{is(api.Triple{0, 7, 0}), no(api.Triple{0, 0, 2}), is(api.Triple{}, of(2, -1, 0)), is(api.Triple{9, 0, 0}), is(api.Triple{0, 7, 0}, of(2, 1, 0))} {
		wantWhich(t, s, triples(api.Triple{1, 1, 1}, api.Triple{3, 1, 1}), facts)
	}
}

// P13.1: what was handed in is left as it was, and what lies behind it, too; an answer shares no memory with it, nor with another answer.
func TestHandedInLeft(t *testing.T) {
	tests := append(make([]api.Test, 0, 8), of(0, 0, 2), of(2, -1, 0))
	back := append(make([]api.Triple, 0, 8), api.Triple{1, 2, 3}, api.Triple{4, 5, 6})
	facts := append(make([]api.Fact, 0, 8), api.Fact{Id: 5, T: api.Triple{3, 7, 3}}, api.Fact{Id: 2, T: api.Triple{3, 7, 1}}, api.Fact{Id: 3, T: api.Triple{3, 7, 3}}, api.Fact{Id: 9})
	s := is(api.Triple{0, 7, 0}, tests...)
	all := func() string { return fmt.Sprint(s, tests[:8], back[:8], facts[:8]) }
	before := all()
	Holds(tests[0], back, facts[0].T)
	Meets(s, back, facts[0].T)
	one, other := Which(s, back, facts[:3]), Which(s, back, facts[:3])
	if all() != before {
		t.Error("what was handed in is written into")
	}
	full := one[:cap(one)]
	for i := range full {
		full[i] = 77
	}
	if all() != before || !slices.Equal(other, []int{5, 3}) {
		t.Error("an answer shares memory", other)
	}
	clear(tests)
	clear(back)
	clear(facts)
	if !slices.Equal(other, []int{5, 3}) {
		t.Error("an answer shares memory with what was handed in", other)
	}
}

// anyStep is a right step by chance: a Pos, a Neg, or, seldom, an Ncc.
func anyStep(r *rand.Rand) api.Step {
	if r.Intn(12) == 0 {
		return api.Step{Kind: api.Ncc, Subs: []api.Step{anyStep(r)}}
	}
	s := api.Step{Kind: 1 + r.Intn(2)}
	for f := range 3 {
		if r.Intn(3) == 0 {
			s.Key[f] = 1 + r.Intn(3)
		}
		if x := of(f, r.Intn(6)-1, r.Intn(3)); r.Intn(2) == 0 && (x.Back >= 0 || x.Other < f) {
			s.Tests = append(s.Tests, x)
		}
	}
	return s
}

// anyTriples is up to so many triples by chance.
func anyTriples(r *rand.Rand, most int) []api.Triple {
	var l []api.Triple
	for range r.Intn(most + 1) {
		l = append(l, api.Triple{1 + r.Intn(3), 1 + r.Intn(3), 1 + r.Intn(3)})
	}
	return l
}

// P13.1: steps, earlier triples and facts by chance are as the model says.
func TestRandom(t *testing.T) {
	for seed := range int64(20) {
		r := rand.New(rand.NewSource(seed))
		met := 0
		for range 2000 {
			s, back := anyStep(r), anyTriples(r, 6)
			var facts []api.Fact
			for _, a := range anyTriples(r, 20) {
				facts = append(facts, api.Fact{Id: 1 + r.Intn(30), T: a})
				wantMeets(t, s, back, a)
				for _, x := range s.Tests {
					wantHolds(t, x, back, a)
				}
			}
			wantWhich(t, s, back, facts)
			met += len(Which(s, back, facts))
		}
		if met < 1000 {
			t.Errorf("seed %d: only %d met", seed, met)
		}
	}
}

// modelFit is what layer 3 says of terms that fit a triple, plainly: each field agrees with what is bound, and with each other field of the same variable.
func modelFit(l [3]api.Term, a api.Triple, bound map[int]int) bool {
	for f := range 3 {
		want := l[f].N
		if l[f].Var {
			want = bound[l[f].N]
		}
		if want != 0 && want != a[f] {
			return false
		}
		for g := range 3 {
			if l[f] == l[g] && a[f] != a[g] {
				return false
			}
		}
	}
	return true
}

// wantFits wants that just those triples meet the step of a chain's last condition whose terms fit them, whatever facts its Pos ahead have, as far as they fit; met is how many do.
func wantFits(t *testing.T, chain []api.Cond, syms ...int) (met int) {
	t.Helper()
	ahead, last := chain[:len(chain)-1], chain[len(chain)-1]
	s := comp.Step(ahead, last)
	eachWay(ahead, nil, term.Bind{}, cube(syms...), func(back []api.Triple, b term.Bind) {
		bound := map[int]int{}
		for v, sym := range b {
			if sym > 0 {
				bound[v] = sym
			}
		}
		for _, a := range cube(syms...) {
			_, want := term.Fit(last.T, a, b)
			if want != modelFit(last.T, a, bound) {
				t.Fatalf("Fit(%v, %v, %v) is %v", last.T, a, b, want)
			}
			if got := Meets(s, back, a); got != want {
				t.Fatalf("%v behind %v with %v: %v meets %v: %v", last, ahead, back, a, s, got)
			}
			if want {
				met++
			}
		}
	})
	return met
}

// eachWay hands on each choice of triples for the Pos of a chain whose terms fit them, one behind the other, with what they bind then.
func eachWay(chain []api.Cond, back []api.Triple, b term.Bind, from []api.Triple, hand func(back []api.Triple, b term.Bind)) {
	i := slices.IndexFunc(chain, func(c api.Cond) bool { return c.Kind == api.Pos })
	if i < 0 {
		hand(back, b)
		return
	}
	for _, a := range from {
		if grown, ok := term.Fit(chain[i].T, a, b); ok {
			eachWay(chain[i+1:], append(slices.Clone(back), a), grown, from, hand)
		}
	}
}

// terms is all three terms of which each is one of these.
func terms(of ...api.Term) [][3]api.Term {
	var all [][3]api.Term
	for _, a := range of {
		for _, b := range of {
			for _, c := range of {
				all = append(all, [3]api.Term{a, b, c})
			}
		}
	}
	return all
}

// P13.2: a condition behind nothing: variables that stand for the first time, once, twice and three times, and symbols in each place.
func TestFitsAlone(t *testing.T) {
	for _, l := range terms(vr(1), vr(2), vr(32), sy(1), sy(2), sy(3)) {
		for _, kind := range []int{api.Pos, api.Neg} {
			wantFits(t, []api.Cond{{Kind: kind, T: l}}, 1, 2, 3)
		}
	}
}

// P13.2: all conditions of two variables and a symbol, behind all Pos of these, whatever fact that is.
func TestFitsBehindOne(t *testing.T) {
	met := 0
	for _, ahead := range terms(vr(1), vr(2), sy(1)) {
		for _, l := range terms(vr(1), vr(2), vr(3), sy(1), sy(2)) {
			met += wantFits(t, []api.Cond{{Kind: api.Pos, T: ahead}, {Kind: api.Pos, T: l}}, 1, 2)
			met += wantFits(t, []api.Cond{{Kind: api.Pos, T: ahead}, {Kind: api.Neg, T: l}}, 1, 2)
		}
	}
	if met < 10000 {
		t.Errorf("only %d met", met)
	}
}

// P13.2: three symbols, so that what a variable stands for isn't one of two.
func TestFitsThreeSymbols(t *testing.T) {
	x, y, z := vr(5), vr(31), vr(32)
	for _, chain := range [][]api.Cond{
		{pos(x, sy(2), y), pos(y, sy(2), x)}, {pos(x, sy(2), y), neg(y, sy(2), z)}, {pos(x, sy(2), y), neg(z, x, z)},
		{pos(x, y, z), pos(z, x, y)}, {pos(x, y, z), neg(z, z, z)}, {pos(x, x, y), neg(y, x, y)}, {pos(x, y, x), pos(z, y, z)},
		{pos(x, y, y), neg(sy(3), y, x)}, {pos(x, x, x), pos(x, y, x)}, {pos(sy(1), sy(2), x), neg(x, sy(1), sy(2))},
	} {
		if wantFits(t, chain, 1, 2, 3) == 0 {
			t.Errorf("%v: none met", chain)
		}
	}
}

// P13.2: behind two Pos that bind, with Neg and Ncc between, which bind nothing and of which no fact is there.
func TestFitsBehindSome(t *testing.T) {
	x, y, z, on := vr(1), vr(2), vr(3), sy(1)
	for _, l := range terms(x, y, z, on) {
		for _, kind := range []int{api.Pos, api.Neg} {
			last := api.Cond{Kind: kind, T: l}
			for _, ahead := range [][]api.Cond{
				{pos(x, on, y), pos(y, on, z)},
				{pos(x, on, y), neg(y, on, x), pos(y, z, z)},
				{neg(z, z, z), pos(x, y, x)},
				{neg(z, on, z), pos(on, x, on), neg(x, y, z), pos(y, x, y)},
				{ncc(pos(z, on, y), neg(y, y, y)), pos(x, on, y), ncc(pos(y, on, z), pos(z, on, x)), pos(y, z, y)},
				{pos(on, on, on), pos(x, y, y)},
				{pos(x, y, on), pos(on, x, y), pos(y, on, x)},
			} {
				wantFits(t, append(slices.Clone(ahead), last), 1, 2)
			}
		}
	}
}

// P13.2: conditions in an Ncc stand behind what is ahead of it and behind those ahead of them in it: all their Pos bind.
func TestFitsInside(t *testing.T) {
	x, y, z, on := vr(1), vr(2), vr(3), sy(1)
	for _, l := range [][]api.Cond{
		{pos(x, on, y), ncc(pos(y, on, z), neg(z, on, x)), pos(y, y, z)},
		{pos(x, y, x), ncc(pos(z, y, x), ncc(pos(z, z, y), neg(y, z, x)), neg(x, z, y)), neg(x, x, y)},
		{ncc(pos(x, on, y), ncc(neg(y, x, on))), pos(y, on, x), neg(x, on, y)},
		{neg(x, x, on), ncc(neg(x, on, y), pos(y, x, y), neg(y, y, x)), pos(on, x, x)},
	} {
		for _, chain := range scope.Chains(l) {
			if chain[len(chain)-1].Kind != api.Ncc {
				wantFits(t, chain, 1, 2)
			}
		}
	}
}

// anyConds is conditions by chance: Pos and Neg, and, at most so deep, Ncc.
func anyConds(r *rand.Rand, most, deep int) []api.Cond {
	var l []api.Cond
	for range 1 + r.Intn(most) {
		c := api.Cond{Kind: 1 + r.Intn(2)}
		if deep > 1 && r.Intn(4) == 0 {
			c = ncc(anyConds(r, 2, deep-1)...)
		} else {
			for f := range c.T {
				c.T[f] = api.Term{Var: r.Intn(3) > 0, N: 1 + r.Intn(2)}
				if c.T[f].Var {
					c.T[f].N = 1 + r.Intn(4)
				}
			}
		}
		l = append(l, c)
	}
	return l
}

// P13.2: conditions by chance, each behind the chain ahead of it.
func TestFitsRandom(t *testing.T) {
	for seed := range int64(10) {
		r := rand.New(rand.NewSource(seed))
		asked, met := 0, 0
		for range 60 {
			for _, chain := range scope.Chains(anyConds(r, 3, 3)) {
				if chain[len(chain)-1].Kind != api.Ncc && comp.Back(comp.Compile(chain)) <= 4 {
					met += wantFits(t, chain, 1, 2)
					asked++
				}
			}
		}
		if asked < 100 || met < 400 {
			t.Errorf("seed %d: only %d asked, %d met", seed, asked, met)
		}
	}
}

// P13.2: facts behind the last of 15 Pos: what the first one, the last one, and each between them bind.
func TestFitsFar(t *testing.T) {
	for at := range 15 {
		var chain []api.Cond
		var back []api.Triple
		for i := range 15 {
			chain = append(chain, pos(vr(1+i), sy(1), vr(17+i)))
			back = append(back, api.Triple{100 + i, 1, 200 + i})
		}
		s := comp.Step(chain, neg(vr(17+at), vr(1+at), vr(32)))
		for i := range 15 {
			for _, sym := range []int{100, 200} {
				want := i == at && sym == 200
				if got := Meets(s, back, api.Triple{sym + i, 100 + i, 9}); got != want {
					t.Errorf("%d at %d: %v", sym+i, at, got)
				}
			}
		}
	}
}

// What the chapter leaves out ends, and doesn't panic: tests and steps that aren't right.
func TestLeftOut(t *testing.T) {
	far := []int{math.MinInt, -1 << 32, -2, -1, 0, 1, 2, 3, 15, 16, 1 << 32, math.MaxInt}
	backs := [][]api.Triple{nil, cube(1, 2)}
	wrong := []api.Step{{}, {Kind: -1}, {Kind: 4}, {Kind: math.MaxInt}, is(api.Triple{-1, 4097, math.MinInt}), no(api.Triple{math.MaxInt, 0, -1})}
	for _, field := range far {
		for _, back := range far {
			for _, other := range far {
				x := of(field, back, other)
				wrong = append(wrong, is(api.Triple{}, x), no(api.Triple{}, x, x))
				for _, b := range backs {
					Holds(x, b, api.Triple{})
					Holds(x, b, api.Triple{math.MinInt, -1, math.MaxInt})
				}
			}
		}
	}
	self := make([]api.Step, 1)
	self[0] = api.Step{Kind: api.Ncc, Subs: self}
	wrong = append(wrong, self[0], api.Step{Kind: api.Pos, Subs: self}, api.Step{Kind: api.Ncc, Tests: []api.Test{of(9, 9, 9)}})
	for _, s := range wrong {
		for _, b := range backs {
			Meets(s, b, api.Triple{1, 2, 3})
			Which(s, b, []api.Fact{{}, {Id: -1, T: api.Triple{-1, 5000, 0}}, {Id: math.MaxInt, T: api.Triple{1, 1, 1}}})
		}
	}
}
