package plain

import (
	"fmt"
	"math"
	"math/rand"
	"slices"
	"testing"

	"retiary/api"
	"retiary/comp"
	"retiary/rule"
	"retiary/term"
)

// of is a test.
func of(field, back, other int) api.Test { return api.Test{Field: field, Back: back, Other: other} }

// is, no and not are a Pos, a Neg and an Ncc step.
func is(k api.Triple, tests ...api.Test) api.Step {
	return api.Step{Kind: api.Pos, Key: k, Tests: tests}
}
func no(k api.Triple, tests ...api.Test) api.Step {
	return api.Step{Kind: api.Neg, Key: k, Tests: tests}
}
func not(subs ...api.Step) api.Step { return api.Step{Kind: api.Ncc, Subs: subs} }

// steps is steps one behind the other.
func steps(l ...api.Step) []api.Step { return l }

// sy and vr are a symbol and a variable.
func sy(n int) api.Term { return api.Term{N: n} }
func vr(n int) api.Term { return api.Term{Var: true, N: n} }

// pos, neg and ncc are conditions of those kinds.
func pos(a, b, c api.Term) api.Cond { return api.Cond{Kind: api.Pos, T: [3]api.Term{a, b, c}} }
func neg(a, b, c api.Term) api.Cond { return api.Cond{Kind: api.Neg, T: [3]api.Term{a, b, c}} }
func ncc(subs ...api.Cond) api.Cond { return api.Cond{Kind: api.Ncc, Subs: subs} }

// The symbols by which most facts are told apart, and the keys of what has them.
const on, red = 7, 8

var onKey, redKey = api.Triple{0, on, 0}, api.Triple{0, red, 0}

// lies and reds are a fact of one thing on another one, and one of a red thing.
func lies(id, a, b int) api.Fact { return api.Fact{Id: id, T: api.Triple{a, on, b}} }
func reds(id, a int) api.Fact    { return api.Fact{Id: id, T: api.Triple{a, red, a}} }

// list is facts one behind the other.
func list(l ...api.Fact) []api.Fact { return l }

// numbered is facts of triples, whose ids rise from 1 on.
func numbered(l []api.Triple) []api.Fact {
	var facts []api.Fact
	for i, a := range l {
		facts = append(facts, api.Fact{Id: i + 1, T: a})
	}
	return facts
}

// idsOf and triplesOf are the ids and the triples of facts.
func idsOf(facts []api.Fact) []int {
	var ids []int
	for _, f := range facts {
		ids = append(ids, f.Id)
	}
	return ids
}
func triplesOf(facts []api.Fact) []api.Triple {
	var l []api.Triple
	for _, f := range facts {
		l = append(l, f.T)
	}
	return l
}

// modelMeets is what layer 13 says of a step, plainly.
func modelMeets(s api.Step, back []api.Triple, a api.Triple) bool {
	for f := range 3 {
		if s.Key[f] > 0 && s.Key[f] != a[f] {
			return false
		}
	}
	for _, x := range s.Tests {
		if x.Back == -1 && a[x.Field] != a[x.Other] {
			return false
		}
		if x.Back >= 0 && (x.Back >= len(back) || a[x.Field] != back[x.Back][x.Other]) {
			return false
		}
	}
	return s.Kind != api.Ncc
}

// countPos is how many facts a partial match of a chain has.
func countPos(chain []api.Step) int {
	n := 0
	for _, s := range chain {
		if s.Kind == api.Pos {
			n++
		}
	}
	return n
}

// choices is all choices of so many of the facts, by their places.
func choices(facts []api.Fact, n int) [][]api.Fact {
	all := [][]api.Fact{nil}
	for range n {
		var more [][]api.Fact
		for _, c := range all {
			for _, f := range facts {
				more = append(more, append(slices.Clone(c), f))
			}
		}
		all = more
	}
	return all
}

// modelIs is what the chapter says of a choice of facts, plainly; steps ahead of the place from aren't asked.
func modelIs(facts []api.Fact, chain []api.Step, chosen []api.Fact, from int) bool {
	for i, s := range chain {
		if i < from {
			continue
		}
		ahead := chosen[:countPos(chain[:i])]
		switch s.Kind {
		case api.Pos:
			if !modelMeets(s, triplesOf(ahead), chosen[len(ahead)].T) {
				return false
			}
		case api.Neg:
			for _, f := range facts {
				if modelMeets(s, triplesOf(ahead), f.T) {
					return false
				}
			}
		default:
			if modelAny(facts, slices.Concat(chain[:i], s.Subs), ahead) {
				return false
			}
		}
	}
	return true
}

// modelAny is what the chapter says of a beginning, plainly.
func modelAny(facts []api.Fact, chain []api.Step, begin []api.Fact) bool {
	from, more := 0, countPos(chain)-len(begin)
	if more < 0 {
		return false
	}
	for countPos(chain[:from]) < len(begin) {
		from++
	}
	for _, c := range choices(facts, more) {
		if modelIs(facts, chain, slices.Concat(begin, c), from) {
			return true
		}
	}
	return false
}

// modelMatches is the partial matches of a chain, as facts: each choice of facts is asked.
func modelMatches(facts []api.Fact, chain []api.Step) [][]api.Fact {
	var all [][]api.Fact
	for _, c := range choices(facts, countPos(chain)) {
		if modelIs(facts, chain, c, 0) {
			all = append(all, c)
		}
	}
	return all
}

// modelPartial is what Partial is to answer.
func modelPartial(facts []api.Fact, chain []api.Step) [][]int {
	var all [][]int
	for _, m := range modelMatches(facts, chain) {
		all = append(all, idsOf(m))
	}
	return all
}

// modelBlockers is what Blockers is to answer.
func modelBlockers(facts []api.Fact, chain []api.Step, s api.Step) int {
	n := 0
	for _, m := range modelMatches(facts, chain) {
		for _, f := range facts {
			if modelMeets(s, triplesOf(m), f.T) {
				n++
			}
		}
	}
	return n
}

// modelJoins is what Joins is to answer.
func modelJoins(facts []api.Fact, chain []api.Step) []int {
	var all []int
	for i := range chain {
		all = append(all, len(modelMatches(facts, chain[:i+1])))
	}
	return all
}

// alike tells whether two lists of lists are, where no list and an empty one are one.
func alike(a, b [][]int) bool { return slices.EqualFunc(a, b, slices.Equal[[]int]) }

// wantPartial wants that those are the partial matches, of the function and of the model.
func wantPartial(t *testing.T, facts []api.Fact, chain []api.Step, want ...[]int) {
	t.Helper()
	if got := Partial(facts, chain); !alike(got, want) {
		t.Errorf("Partial(%v, %v) is %v, want %v", facts, chain, got, want)
	}
	if model := modelPartial(facts, chain); !alike(model, want) {
		t.Errorf("the model's matches of %v in %v are %v, want %v", chain, facts, model, want)
	}
}

// wantJoins wants that those are the numbers, of the function and of the model.
func wantJoins(t *testing.T, facts []api.Fact, chain []api.Step, want ...int) {
	t.Helper()
	if got := Joins(facts, chain); !slices.Equal(got, want) {
		t.Errorf("Joins(%v, %v) is %v, want %v", facts, chain, got, want)
	}
	if model := modelJoins(facts, chain); !slices.Equal(model, want) {
		t.Errorf("the model's joins of %v in %v are %v, want %v", chain, facts, model, want)
	}
}

// wantBlockers wants that so many pairs there are, for a Pos and for a Neg alike.
func wantBlockers(t *testing.T, facts []api.Fact, chain []api.Step, s api.Step, want int) {
	t.Helper()
	for _, kind := range []int{api.Pos, api.Neg} {
		s.Kind = kind
		if got := Blockers(facts, chain, s); got != want {
			t.Errorf("Blockers(%v, %v, %v) is %d, want %d", facts, chain, s, got, want)
		}
		if model := modelBlockers(facts, chain, s); model != want {
			t.Errorf("the model's blockers of %v, %v in %v are %d, want %d", chain, s, facts, model, want)
		}
	}
}

// wantAny wants that there is, or isn't, one that begins so, by the function and by the model.
func wantAny(t *testing.T, want bool, facts []api.Fact, chain []api.Step, begin ...api.Fact) {
	t.Helper()
	if got := Any(facts, chain, begin); got != want {
		t.Errorf("Any(%v, %v, %v) is %v", facts, chain, begin, got)
	}
	if modelAny(facts, chain, begin) != want {
		t.Errorf("the model has it that for %v, %v, %v it isn't %v", facts, chain, begin, want)
	}
}

// wantModel wants of a chain, and of each way to begin, what the model says; met is how many partial matches there are.
func wantModel(t *testing.T, facts []api.Fact, chain []api.Step) (met int) {
	t.Helper()
	want := modelPartial(facts, chain)
	if got := Partial(facts, chain); !alike(got, want) {
		t.Fatalf("Partial(%v, %v) is %v, want %v", facts, chain, got, want)
	}
	if got, want := Joins(facts, chain), modelJoins(facts, chain); !slices.Equal(got, want) {
		t.Fatalf("Joins(%v, %v) is %v, want %v", facts, chain, got, want)
	}
	if n := len(chain) - 1; n >= 0 {
		if got, want := Blockers(facts, chain[:n], chain[n]), modelBlockers(facts, chain[:n], chain[n]); got != want {
			t.Fatalf("Blockers(%v, %v, %v) is %d, want %d", facts, chain[:n], chain[n], got, want)
		}
	}
	for n := range countPos(chain) + 1 {
		for _, begin := range choices(facts, n) {
			if got, want := Any(facts, chain, begin), modelAny(facts, chain, begin); got != want {
				t.Fatalf("Any(%v, %v, %v) is %v", facts, chain, begin, got)
			}
		}
	}
	return len(want)
}

// P14.1: what the chapter's examples say.
func TestExamples(t *testing.T) {
	facts := list(lies(1, 1, 2), lies(2, 2, 3))
	below := of(0, 0, 2)
	wantPartial(t, facts, steps(is(onKey), is(onKey, below)), []int{1, 2})
	wantPartial(t, facts, steps(is(onKey), no(onKey, below)), []int{2})
}

// P14.1: the chain without steps has one partial match, without facts, whatever facts there are.
func TestNoSteps(t *testing.T) {
	for _, facts := range [][]api.Fact{nil, {}, list(lies(1, 1, 2)), list(lies(1, 1, 2), lies(2, 1, 2), reds(9, 1))} {
		for _, chain := range [][]api.Step{nil, {}, make([]api.Step, 0, 3)} {
			wantPartial(t, facts, chain, nil)
			wantJoins(t, facts, chain)
			wantAny(t, true, facts, chain)
			wantAny(t, false, facts, chain, lies(1, 1, 2))
		}
	}
}

// P14.1: chains of Pos alone, with no facts, with one, and with several; alike ones are chosen one by one, and one may be chosen for two Pos.
func TestPos(t *testing.T) {
	any, below, same := is(api.Triple{}), is(onKey, of(0, 0, 2)), is(onKey, of(2, -1, 0))
	for _, facts := range [][]api.Fact{nil, {}} {
		for _, chain := range [][]api.Step{steps(any), steps(any, any), steps(is(onKey), below)} {
			wantPartial(t, facts, chain)
		}
	}
	one := list(lies(4, 1, 1))
	wantPartial(t, one, steps(any), []int{4})
	wantPartial(t, one, steps(same), []int{4})
	wantPartial(t, one, steps(is(onKey), below), []int{4, 4})
	wantPartial(t, one, steps(any, any, any), []int{4, 4, 4})
	wantPartial(t, one, steps(is(redKey)))
	wantPartial(t, one, steps(any, is(redKey), any))
	two := list(lies(1, 1, 2), lies(2, 2, 1))
	wantPartial(t, two, steps(any, any), []int{1, 1}, []int{1, 2}, []int{2, 1}, []int{2, 2})
	wantPartial(t, two, steps(is(onKey), below), []int{1, 2}, []int{2, 1})
	wantPartial(t, two, steps(is(onKey), below, is(onKey, of(0, 1, 2))), []int{1, 2, 1}, []int{2, 1, 2})
	wantPartial(t, two, steps(same))
	twins := list(lies(1, 1, 2), lies(2, 2, 3), lies(3, 1, 2), lies(4, 2, 3))
	wantPartial(t, twins, steps(is(onKey), below), []int{1, 2}, []int{1, 4}, []int{3, 2}, []int{3, 4})
	wantPartial(t, twins, steps(is(api.Triple{1, on, 2})), []int{1}, []int{3})
	// A Pos may be held against any that is ahead of it, and not to what stands between.
	three := list(lies(1, 1, 2), reds(2, 5), reds(3, 2), reds(4, 1))
	wantPartial(t, three, steps(is(onKey), is(redKey), is(redKey, of(0, 0, 2))), []int{1, 2, 3}, []int{1, 3, 3}, []int{1, 4, 3})
	wantPartial(t, three, steps(is(onKey), is(redKey, of(2, 0, 0)), is(redKey, of(0, 0, 2))), []int{1, 4, 3})
}

// P14.1: they are in order by the places of the facts, whatever their ids are.
func TestOrder(t *testing.T) {
	any := is(api.Triple{})
	facts := list(lies(9, 1, 1), lies(3, 2, 1), lies(5, 1, 2))
	wantPartial(t, facts, steps(any), []int{9}, []int{3}, []int{5})
	wantPartial(t, facts, steps(any, is(onKey, of(0, 0, 2))), []int{9, 9}, []int{9, 5}, []int{3, 9}, []int{3, 5}, []int{5, 3})
	for n := range 27 {
		ids := []int{n % 3, n / 3 % 3, n / 9}
		if ids[0] == ids[1] || ids[1] == ids[2] || ids[0] == ids[2] {
			continue
		}
		for i, id := range ids {
			facts[i].Id = 10 * (id + 1)
		}
		for _, chain := range [][]api.Step{steps(any, any), steps(any, no(redKey), any, not(is(redKey)), any), steps(is(onKey), is(onKey, of(2, 0, 0)), is(onKey, of(0, 1, 0)))} {
			if wantModel(t, facts, chain) == 0 {
				t.Errorf("no partial match of %v", chain)
			}
		}
	}
	// Ids far from each other, and 0 and below, are told as they are.
	far := list(lies(math.MaxInt, 1, 2), lies(math.MinInt, 2, 3), lies(0, 2, 4))
	wantPartial(t, far, steps(is(onKey), is(onKey, of(0, 0, 2))), []int{math.MaxInt, math.MinInt}, []int{math.MaxInt, 0})
}

// P14.1: a Neg first: it holds for all choices or for none.
func TestNegFirst(t *testing.T) {
	facts := list(lies(1, 1, 2), lies(2, 2, 3))
	wantPartial(t, nil, steps(no(api.Triple{})), nil)
	wantPartial(t, facts, steps(no(api.Triple{})))
	wantPartial(t, facts, steps(no(redKey)), nil)
	wantPartial(t, facts, steps(no(redKey), is(onKey)), []int{1}, []int{2})
	wantPartial(t, facts, steps(no(api.Triple{2, 0, 0}), is(onKey)))
	wantPartial(t, facts, steps(no(onKey, of(2, -1, 0)), is(onKey)), []int{1}, []int{2})
	wantPartial(t, append(facts, lies(3, 9, 9)), steps(no(onKey, of(2, -1, 0)), is(onKey)))
	wantPartial(t, facts, steps(no(redKey), no(api.Triple{3, 0, 0}), is(onKey)), []int{1}, []int{2})
	wantPartial(t, facts, steps(no(redKey), no(api.Triple{1, 0, 0}), is(onKey)))
}

// P14.1: a Neg in the middle and at the end: a fact meets it behind some choices, and doesn't behind others.
func TestNegBehind(t *testing.T) {
	facts := list(lies(1, 1, 2), lies(2, 2, 3), reds(3, 3), reds(4, 1))
	below, free := no(onKey, of(0, 0, 2)), no(redKey, of(0, 0, 2))
	wantPartial(t, facts, steps(is(onKey), below), []int{2})
	wantPartial(t, facts, steps(is(onKey), free), []int{1})
	wantPartial(t, facts, steps(is(onKey), below, free))
	wantPartial(t, facts, steps(is(onKey), free, is(redKey)), []int{1, 3}, []int{1, 4})
	wantPartial(t, facts, steps(is(redKey), is(onKey), no(redKey, of(2, 1, 0))), []int{3, 2}, []int{4, 2})
	// What is chosen may be what meets it, and what is behind a Neg counts on from what is ahead of it.
	wantPartial(t, facts, steps(is(onKey), no(onKey, of(0, 0, 0))))
	wantPartial(t, facts, steps(is(onKey), free, is(onKey, of(0, 0, 2)), no(redKey, of(0, 1, 0)), is(redKey, of(2, 1, 2))), []int{1, 2, 3})
	wantPartial(t, facts, steps(no(api.Triple{5, 0, 0}), is(onKey), no(api.Triple{6, 0, 0}), is(redKey, of(0, 0, 0)), no(onKey, of(2, 1, 0))), []int{1, 4})
	// One that is held against a fact that isn't chosen is met by nothing.
	wantPartial(t, facts, steps(is(onKey), no(api.Triple{}, of(0, 1, 0))), []int{1}, []int{2})
}

// P14.1: an Ncc with one Sub and with several: not all of them together.
func TestNcc(t *testing.T) {
	facts := list(lies(1, 1, 2), lies(2, 2, 3), reds(3, 3), lies(4, 4, 3))
	below := is(onKey, of(0, 0, 2))
	wantPartial(t, facts, steps(not(is(onKey))))
	wantPartial(t, facts, steps(not(is(onKey), is(api.Triple{0, 9, 0}))), nil)
	wantPartial(t, nil, steps(not(is(onKey))), nil)
	wantPartial(t, nil, steps(not(no(onKey))))
	wantPartial(t, facts, steps(is(onKey), not(below)), []int{2}, []int{4})
	wantPartial(t, facts, steps(is(onKey), not(below, is(redKey, of(0, 1, 2)))), []int{2}, []int{4})
	wantPartial(t, facts, steps(is(onKey), not(below, is(redKey, of(0, 1, 0)))), []int{1}, []int{2}, []int{4})
	wantPartial(t, facts, steps(is(onKey), not(is(redKey, of(0, 0, 2)))), []int{1})
	// A later Sub may ask that an earlier one goes on by another fact than its first.
	more := append(facts, lies(5, 2, 9))
	wantPartial(t, more, steps(is(api.Triple{1, on, 0}), not(below, is(redKey, of(0, 1, 2)))))
	wantPartial(t, append(list(lies(6, 2, 8)), more...), steps(is(api.Triple{1, on, 0}), not(below, is(redKey, of(0, 1, 2)))))
	wantPartial(t, list(lies(1, 1, 2), lies(2, 2, 8), lies(3, 2, 9)), steps(is(api.Triple{1, on, 0}), not(below, is(redKey, of(0, 1, 2)))), []int{1})
}

// P14.1: a Neg and an Ncc in an Ncc, two and three deep.
func TestNccDeep(t *testing.T) {
	facts := list(lies(1, 1, 2), lies(2, 2, 3), reds(3, 3), lies(4, 4, 5), reds(5, 2))
	below := is(onKey, of(0, 0, 2))
	// What lies on something is red: of 1 that is so, of 2 and 4 nothing lies there.
	wantPartial(t, facts, steps(is(onKey), not(below, no(redKey, of(0, 1, 0)))), []int{1}, []int{2}, []int{4})
	wantPartial(t, facts[:4], steps(is(onKey), not(below, no(redKey, of(0, 1, 0)))), []int{2}, []int{4})
	wantPartial(t, facts, steps(is(onKey), not(no(redKey, of(0, 0, 2)))), []int{1}, []int{2})
	wantPartial(t, facts, steps(is(onKey), not(no(redKey, of(0, 0, 2)), is(onKey, of(2, 0, 2)))), []int{1}, []int{2})
	wantPartial(t, facts, steps(is(onKey), not(no(redKey, of(0, 0, 2)), is(onKey, of(2, 0, 0)))), []int{1}, []int{2}, []int{4})
	// Not not: it is so.
	wantPartial(t, facts, steps(is(onKey), not(not(is(redKey, of(0, 0, 2))))), []int{1}, []int{2})
	wantPartial(t, facts, steps(is(onKey), not(not(no(redKey, of(0, 0, 2))))), []int{4})
	wantPartial(t, facts, steps(not(not(is(redKey)))), nil)
	wantPartial(t, facts, steps(not(not(is(api.Triple{9, 0, 0})))))
	// The inner one stands behind what is chosen for the Subs ahead of it: not one below that lies on nothing red.
	wantPartial(t, facts, steps(is(onKey), not(below, not(is(redKey, of(0, 1, 2))))), []int{1}, []int{2}, []int{4})
	wantPartial(t, facts, steps(is(onKey), not(below, not(is(redKey, of(0, 1, 2)), is(onKey, of(0, 2, 0))))), []int{2}, []int{4})
	wantPartial(t, facts, steps(is(onKey), not(below, not(no(redKey, of(0, 1, 2))), is(redKey, of(0, 0, 2)))), []int{2}, []int{4})
	wantPartial(t, facts, steps(is(onKey), not(not(below, is(redKey, of(0, 1, 2))))), []int{1})
	wantPartial(t, facts, steps(is(onKey), not(not(below, no(redKey, of(0, 1, 2))))))
	wantPartial(t, facts, steps(is(onKey), not(not(below), not(is(redKey, of(0, 0, 2))))), []int{1}, []int{2})
}

// P14.1: what is chosen in an Ncc is chosen for it alone: what is behind it counts on from what is ahead of it.
func TestNccAlone(t *testing.T) {
	facts := list(lies(1, 1, 2), lies(2, 2, 3), reds(3, 3), reds(4, 2), reds(5, 1))
	two := not(is(onKey, of(0, 0, 2)), is(redKey), is(api.Triple{9, 0, 0}))
	wantPartial(t, facts, steps(is(onKey), two), []int{1}, []int{2})
	wantPartial(t, facts, steps(is(onKey), two, is(redKey, of(0, 0, 2))), []int{1, 4}, []int{2, 3})
	wantPartial(t, facts, steps(is(onKey), two, is(redKey, of(0, 0, 2)), two, is(redKey, of(0, 1, 0)), no(onKey, of(2, 1, 0))))
	wantPartial(t, facts, steps(is(onKey), two, is(redKey, of(0, 0, 0)), two, is(redKey, of(0, 0, 2)), no(onKey, of(2, 1, 0))), []int{1, 5, 4})
	wantPartial(t, facts, steps(two, two, is(onKey), not(is(redKey, of(0, 0, 2)), is(onKey, of(0, 1, 0)))), []int{2})
	// Two that are held against alike Backs, each to what is chosen in itself.
	wantPartial(t, facts, steps(is(onKey), not(is(redKey, of(0, 0, 0)), is(onKey, of(2, 1, 0))), not(is(redKey, of(0, 0, 2)), no(onKey, of(0, 1, 0)))), []int{1})
	wantPartial(t, list(reds(1, 1), reds(2, 2)), steps(is(redKey), not(is(redKey), is(redKey), no(redKey, of(0, 2, 0))), is(redKey, of(0, 0, 0))), []int{1, 1}, []int{2, 2})
}

// P14.1: Any with no facts to begin with: whether there is a partial match at all.
func TestAnyAtAll(t *testing.T) {
	facts := list(lies(1, 1, 2), lies(2, 2, 3), reds(3, 3))
	below := is(onKey, of(0, 0, 2))
	wantAny(t, true, facts, steps(is(onKey)))
	wantAny(t, false, facts, steps(is(api.Triple{9, 0, 0})))
	wantAny(t, true, facts, steps(is(onKey), below))
	wantAny(t, false, facts, steps(is(onKey), below, is(onKey, of(0, 1, 2))))
	wantAny(t, true, facts, steps(is(onKey), below, is(redKey, of(0, 1, 2))))
	// The first choice doesn't go on, a later one does.
	wantAny(t, true, facts, steps(is(onKey), is(redKey, of(0, 0, 2))))
	wantAny(t, true, facts, steps(no(api.Triple{9, 0, 0})))
	wantAny(t, false, facts, steps(no(redKey), is(onKey)))
	wantAny(t, false, facts, steps(is(onKey), no(redKey)))
	wantAny(t, true, facts, steps(is(onKey), no(redKey, of(0, 0, 2))))
	wantAny(t, true, facts, steps(is(onKey), not(below)))
	wantAny(t, false, facts, steps(not(is(onKey))))
	wantAny(t, true, nil, steps(not(is(onKey))))
	wantAny(t, true, nil, steps(no(onKey), not(is(onKey), no(onKey))))
	wantAny(t, false, nil, steps(is(onKey)))
}

// P14.1: Any with facts for the first Pos, for some, and for all of them.
func TestAnyBegins(t *testing.T) {
	facts := list(lies(1, 1, 2), lies(2, 2, 3), reds(3, 3), lies(4, 2, 5))
	first, last := facts[0], facts[1]
	below := is(onKey, of(0, 0, 2))
	chain := steps(is(onKey), below, is(redKey, of(0, 1, 2)))
	wantAny(t, true, facts, chain, first)
	wantAny(t, false, facts, chain, last)
	wantAny(t, true, facts, chain, first, last)
	wantAny(t, false, facts, chain, first, facts[3])
	wantAny(t, true, facts, chain, first, last, facts[2])
	wantAny(t, false, facts, chain, first, last, facts[2], facts[2])
	wantAny(t, false, facts, nil, first)
	wantAny(t, false, facts, steps(no(api.Triple{9, 0, 0}), not(is(onKey), is(onKey))), first)
	// With a Neg and an Ncc behind the last of these.
	wantAny(t, false, facts, steps(is(onKey), no(onKey, of(0, 0, 2))), first)
	wantAny(t, true, facts, steps(is(onKey), no(onKey, of(0, 0, 2))), last)
	wantAny(t, false, facts, steps(is(onKey), no(onKey, of(0, 0, 2)), below), first)
	wantAny(t, false, facts, steps(is(onKey), not(below, is(redKey, of(0, 1, 2)))), first)
	wantAny(t, true, facts, steps(is(onKey), not(below, is(redKey, of(0, 1, 0)))), first)
	wantAny(t, true, facts, steps(is(onKey), not(below), no(onKey, of(0, 0, 2))), last)
	wantAny(t, true, facts, steps(is(onKey), below, no(redKey, of(0, 1, 2))), first)
	wantAny(t, false, facts, steps(is(onKey), below, no(redKey, of(0, 1, 2))), first, last)
	wantAny(t, true, facts, steps(is(onKey), below, not(is(redKey, of(0, 1, 2))), is(redKey)), first, facts[3])
	wantAny(t, false, facts, steps(is(onKey), below, not(is(redKey, of(0, 1, 2))), is(redKey)), first, last)
}

// P14.1: Any doesn't ask again for what is ahead of the last of these, nor for it: neither whether they meet their steps, nor for a Neg or an Ncc among them, nor whether they are there.
func TestAnyNotAgain(t *testing.T) {
	facts := list(lies(1, 1, 2), lies(2, 2, 3), reds(3, 3))
	first := facts[0]
	below := is(onKey, of(0, 0, 2))
	wantAny(t, true, facts, steps(is(redKey)), first)
	wantAny(t, false, facts, steps(no(onKey), is(onKey)))
	wantAny(t, true, facts, steps(no(onKey), is(onKey)), first)
	wantAny(t, true, facts, steps(not(is(onKey)), is(onKey), below), first)
	wantAny(t, true, facts, steps(is(onKey), no(onKey), is(onKey)), first, facts[1])
	wantAny(t, false, facts, steps(is(onKey), no(onKey), is(onKey)), first)
	wantAny(t, true, facts, steps(is(onKey), not(is(onKey)), below), facts[1], facts[1])
	wantAny(t, true, facts, steps(is(redKey), is(redKey), is(redKey, of(0, 1, 2))), first, facts[1])
	wantAny(t, false, facts, steps(is(redKey), is(redKey), no(redKey, of(0, 1, 2))), first, facts[1])
	// What is behind stands behind the triples that are handed in, whether there are such facts or not.
	wantAny(t, true, facts, steps(is(onKey), is(redKey, of(0, 0, 2))), lies(9, 9, 3))
	wantAny(t, false, facts, steps(is(onKey), is(redKey, of(0, 0, 2))), lies(2, 2, 9))
	wantAny(t, false, facts, steps(is(onKey), not(is(redKey, of(0, 0, 2)))), lies(9, 9, 3))
	wantAny(t, true, nil, steps(is(onKey), no(redKey)), first)
	wantAny(t, true, nil, steps(is(onKey)), first)
}

// P14.1: Blockers, none, one and several, each pair once, of the chain without steps too.
func TestBlockers(t *testing.T) {
	facts := list(lies(1, 1, 2), lies(2, 2, 3), reds(3, 3), lies(4, 4, 2), lies(5, 2, 3))
	below := no(onKey, of(0, 0, 2))
	wantBlockers(t, facts, nil, no(api.Triple{9, 0, 0}), 0)
	wantBlockers(t, facts, nil, no(redKey), 1)
	wantBlockers(t, facts, []api.Step{}, no(onKey), 4)
	wantBlockers(t, facts, nil, no(api.Triple{}, of(2, -1, 0)), 1)
	wantBlockers(t, nil, nil, no(onKey), 0)
	wantBlockers(t, nil, steps(is(onKey)), no(onKey), 0)
	wantBlockers(t, facts, steps(is(onKey)), below, 4)
	wantBlockers(t, facts, steps(is(onKey)), no(redKey, of(0, 0, 2)), 2)
	wantBlockers(t, facts, steps(is(onKey)), no(redKey, of(0, 0, 0)), 0)
	wantBlockers(t, facts, steps(is(onKey)), no(onKey), 16)
	wantBlockers(t, facts, steps(is(onKey), is(onKey, of(0, 0, 2))), no(redKey, of(0, 1, 2)), 4)
	wantBlockers(t, facts, steps(is(onKey), below), no(onKey, of(2, 0, 2)), 4)
	wantBlockers(t, facts, steps(is(api.Triple{9, 0, 0})), no(api.Triple{}), 0)
	wantBlockers(t, facts, steps(no(onKey)), no(api.Triple{}), 0)
	wantBlockers(t, facts, steps(no(api.Triple{9, 0, 0})), no(redKey), 1)
	wantBlockers(t, facts, steps(is(onKey), not(is(onKey, of(0, 0, 2)), is(redKey, of(0, 1, 2)))), no(redKey, of(0, 0, 2)), 2)
	// A fact that is held against one that isn't chosen, even if it is chosen in an Ncc ahead, meets nothing.
	wantBlockers(t, facts, steps(is(onKey), not(is(redKey), is(api.Triple{9, 0, 0}))), no(redKey, of(0, 1, 0)), 0)
	// A fact never meets an Ncc.
	for _, chain := range [][]api.Step{nil, steps(is(onKey))} {
		if n := Blockers(facts, chain, not(is(onKey))); n != 0 {
			t.Errorf("%d pairs with an Ncc", n)
		}
	}
}

// P14.1: Joins of each kind of step, the number of partial matches of the chain up to it.
func TestJoins(t *testing.T) {
	facts := list(lies(1, 1, 2), lies(2, 2, 3), reds(3, 3), lies(4, 4, 2), lies(5, 2, 3))
	below := of(0, 0, 2)
	wantJoins(t, facts, steps(is(onKey)), 4)
	wantJoins(t, facts, steps(is(onKey), is(onKey, below)), 4, 4)
	wantJoins(t, facts, steps(is(onKey), is(onKey)), 4, 16)
	wantJoins(t, facts, steps(is(onKey), no(onKey, below)), 4, 2)
	wantJoins(t, facts, steps(is(onKey), not(is(onKey, below)), is(onKey), no(redKey)), 4, 2, 8, 0)
	wantJoins(t, facts, steps(no(redKey), is(onKey), is(onKey)), 0, 0, 0)
	wantJoins(t, facts, steps(no(api.Triple{9, 0, 0}), not(is(api.Triple{9, 0, 0})), not(no(api.Triple{9, 0, 0}))), 1, 1, 0)
	wantJoins(t, facts, steps(is(onKey), is(onKey, below), is(redKey, of(0, 1, 2)), is(onKey, of(2, 2, 0))), 4, 4, 4, 8)
	wantJoins(t, facts, steps(is(redKey), is(api.Triple{9, 0, 0}), no(api.Triple{9, 0, 0})), 1, 0, 0)
	wantJoins(t, nil, steps(no(onKey), not(is(onKey)), is(onKey), no(onKey)), 1, 1, 0, 0)
}

// pool is steps of each kind, held against what is chosen and not, alone and in each other; none of them asks for more than one fact ahead.
func pool() []api.Step {
	low, below, above := is(onKey), is(onKey, of(0, 0, 2)), is(onKey, of(2, 0, 0))
	return steps(
		low, below, is(api.Triple{}, of(2, -1, 0)), is(api.Triple{1, 0, 0}),
		no(onKey, of(0, 0, 2)), no(redKey), no(api.Triple{}, of(0, 0, 2), of(2, -1, 0)), no(api.Triple{0, on, 1}),
		not(below), not(above, no(redKey, of(0, 1, 0))), not(is(redKey), no(onKey, of(0, 0, 0), of(2, 1, 0))),
		not(not(below)), not(above, not(is(redKey, of(0, 0, 2)), is(onKey, of(0, 1, 0)))),
	)
}

// factLists is lists of facts: none, one, several, alike ones, ids that rise and that don't.
func factLists() [][]api.Fact {
	return [][]api.Fact{
		nil, list(lies(1, 1, 1)), list(reds(5, 2)), list(lies(1, 1, 2), lies(2, 2, 1)),
		list(lies(3, 2, 3), lies(2, 1, 2), reds(1, 3)), list(lies(1, 1, 2), lies(9, 1, 2), lies(5, 2, 2)),
		list(reds(8, 1), lies(7, 1, 2), lies(2, 2, 3), lies(4, 3, 1)),
	}
}

// P14.1: all chains of up to three steps of a pool, in all lists of facts, are as the model says.
func TestAllChains(t *testing.T) {
	met, all := 0, pool()
	for _, facts := range factLists() {
		wantModel(t, facts, nil)
		for _, a := range all {
			met += wantModel(t, facts, steps(a))
			for _, b := range all {
				met += wantModel(t, facts, steps(a, b))
				for _, c := range all {
					met += wantModel(t, facts, steps(a, b, c))
				}
			}
		}
	}
	if met < 5000 {
		t.Errorf("only %d partial matches", met)
	}
}

// P14.1: Blockers of all chains of up to two steps and all steps behind them.
func TestAllBlockers(t *testing.T) {
	sum, all := 0, pool()
	for _, facts := range factLists() {
		for _, s := range all {
			for _, a := range all {
				for _, b := range all {
					want := modelBlockers(facts, steps(a, b), s)
					if got := Blockers(facts, steps(a, b), s); got != want {
						t.Fatalf("Blockers(%v, %v, %v) is %d, want %d", facts, steps(a, b), s, got, want)
					}
					sum += want
				}
			}
		}
	}
	if sum < 500 {
		t.Errorf("only %d pairs", sum)
	}
}

// anySteps is up to so many right steps by chance, behind so many Pos, Nccs among them as deep as may be.
func anySteps(r *rand.Rand, least, most, ahead, deep int) []api.Step {
	var l []api.Step
	for range least + r.Intn(most-least+1) {
		if deep > 1 && r.Intn(4) == 0 {
			l = append(l, not(anySteps(r, 1, 2, ahead+countPos(l), deep-1)...))
			continue
		}
		s := api.Step{Kind: 1 + r.Intn(2)}
		// A Neg asks for more than a Pos, or nearly all would be held up.
		seldom := 9 - 4*s.Kind
		for f := range 3 {
			if n := ahead + countPos(l); n > 0 && r.Intn(seldom) == 0 {
				s.Tests = append(s.Tests, of(f, r.Intn(n), r.Intn(3)))
			} else if r.Intn(seldom) == 0 {
				s.Key[f] = 1 + r.Intn(3)
			} else if f > 0 && r.Intn(seldom) == 0 {
				s.Tests = append(s.Tests, of(f, -1, r.Intn(f)))
			}
		}
		l = append(l, s)
	}
	return l
}

// anyFacts is up to so many facts by chance, with unlike ids in any order.
func anyFacts(r *rand.Rand, most, syms int) []api.Fact {
	var facts []api.Fact
	ids := r.Perm(2 * most)
	for i := range r.Intn(most + 1) {
		facts = append(facts, api.Fact{Id: 1 + ids[i], T: api.Triple{1 + r.Intn(syms), 1 + r.Intn(syms), 1 + r.Intn(syms)}})
	}
	return facts
}

// P14.1: facts and chains by chance are as the model says.
func TestRandom(t *testing.T) {
	for seed := range int64(10) {
		r := rand.New(rand.NewSource(seed))
		met, long := 0, 0
		for range 1500 {
			chain := anySteps(r, 0, 5, 0, 3)
			if slices.ContainsFunc(chain, func(s api.Step) bool { return !comp.Right(s) }) {
				t.Fatalf("%v isn't right", chain)
			}
			most := 5
			if countPos(chain) > 3 {
				most = 3
			}
			n := wantModel(t, anyFacts(r, most, 2), chain)
			met += n
			if n > 0 && len(chain) > 3 {
				long++
			}
		}
		if met < 1000 || long < 50 {
			t.Errorf("seed %d: only %d partial matches, %d long chains with any", seed, met, long)
		}
	}
}

// P14.1: as many facts as there may be: things on each other, in a row.
func TestManyFacts(t *testing.T) {
	var facts []api.Fact
	for i := range api.MaxFacts {
		facts = append(facts, lies(api.MaxFacts-i, i+1, i+2))
	}
	below := is(onKey, of(0, 0, 2))
	l := Partial(facts, steps(is(onKey), below))
	for i, m := range l {
		if !slices.Equal(m, []int{api.MaxFacts - i, api.MaxFacts - i - 1}) {
			t.Fatalf("the partial match %d is %v", i, m)
		}
	}
	if n := Joins(facts, steps(is(onKey), below, no(onKey, of(0, 1, 2)))); len(l) != 1023 || !slices.Equal(n, []int{1024, 1023, 1}) {
		t.Error(len(l), n)
	}
	if n := Blockers(facts, steps(is(onKey)), below); n != 1023 {
		t.Error(n)
	}
	if l := Partial(facts, steps(is(onKey), not(below))); !alike(l, [][]int{{1}}) {
		t.Error(l)
	}
	if n := Joins(facts, steps(is(onKey), is(onKey))); n[1] != 1<<20 {
		t.Error(n)
	}
	if !Any(facts, steps(is(onKey), below), facts[1022:1023]) || Any(facts, steps(is(onKey), below), facts[1023:]) {
		t.Error("Any")
	}
}

// P14.1: chains may be longer than a rule's, of each kind of step, and each Back counts from the first Pos on.
func TestLongChains(t *testing.T) {
	const n = 200_000
	one := list(lies(6, 1, 2))
	for _, c := range []struct {
		s    api.Step
		want []int
	}{{is(onKey), slices.Repeat([]int{6}, n)}, {is(onKey, of(0, 0, 0)), nil}, {no(redKey), []int{}}, {not(is(redKey)), []int{}}, {not(not(is(onKey))), []int{}}} {
		chain := slices.Repeat(steps(c.s), n)
		got, joins := Partial(one, chain), Joins(one, chain)
		if c.want == nil {
			// The first one is held against a fact that isn't chosen.
			if len(got) != 0 || joins[0] != 0 || joins[n-1] != 0 || Any(one, chain, nil) || !Any(one, chain, one) {
				t.Errorf("%v: %d, %d", c.s, len(got), joins[0])
			}
			continue
		}
		if len(got) != 1 || !slices.Equal(got[0], c.want) || len(joins) != n || joins[0] != 1 || joins[n-1] != 1 {
			t.Errorf("%v: %d of %v", c.s, len(got), chain[:2])
		}
		if !Any(one, chain, slices.Repeat(one, len(c.want))) || Any(one, chain, slices.Repeat(one, len(c.want)+1)) || Blockers(one, chain, no(onKey)) != 1 {
			t.Errorf("%v: Any, Blockers", c.s)
		}
	}
	var chain []api.Step
	var facts []api.Fact
	for i := range 16 {
		chain = append(chain, is(api.Triple{i + 1, 0, 0}))
		facts = append(facts, api.Fact{Id: 16 - i, T: api.Triple{i + 1, 100 + i, 200 + i}})
	}
	for i := range 16 {
		last := api.Fact{Id: 99, T: api.Triple{100 + i, 50, 200 + i}}
		got := Partial(append(slices.Clone(facts), last), append(slices.Clone(chain), is(api.Triple{0, 50, 0}, of(0, i, 1), of(2, i, 2))))
		if !alike(got, [][]int{append(idsOf(facts), 99)}) {
			t.Errorf("Back %d: %v", i, got)
		}
		if n := Blockers(append(slices.Clone(facts), last), chain, no(api.Triple{0, 50, 0}, of(0, (i+1)%16, 1))); n != 0 {
			t.Errorf("Back %d: %d", i, n)
		}
	}
}

// text is all that a list and what lies behind it are.
func text[T any](l []T) string { return fmt.Sprint(len(l), l[:cap(l)]) }

// P14.1: what was handed in is left as it was, and what lies behind it, too.
func TestHandedInLeft(t *testing.T) {
	facts := append(make([]api.Fact, 0, 9), lies(1, 1, 2), lies(2, 2, 3), reds(3, 3), lies(4, 3, 1))
	subs := append(make([]api.Step, 0, 9), is(onKey, append(make([]api.Test, 0, 5), of(0, 0, 2))...), no(redKey, of(0, 0, 2)), not(is(redKey, of(0, 1, 2)), is(redKey)))
	chain := append(make([]api.Step, 0, 9), is(onKey), not(subs[:2]...), is(onKey, of(0, 0, 2)), not(subs...), no(redKey, of(0, 1, 2)), is(redKey))
	begin := append(make([]api.Fact, 0, 9), facts[0], facts[1])
	all := func() string {
		return text(facts) + text(subs) + text(subs[0].Tests) + text(chain) + text(chain[1].Subs) + text(begin)
	}
	before := all()
	for n := range len(chain) + 1 {
		for k := range len(facts) + 1 {
			Partial(facts[:k], chain[:n])
			Joins(facts[:k], chain[:n])
			Blockers(facts[:k], chain[:n], subs[0])
			for i := range len(begin) + 1 {
				Any(facts[:k], chain[:n], begin[:i])
			}
			if all() != before {
				t.Fatalf("what was handed in is written into, with %d steps and %d facts", n, k)
			}
		}
	}
}

// P14.1: what was told isn't changed by what comes later: it shares no memory with what was handed in, with another answer, nor with another list of its own.
func TestToldStays(t *testing.T) {
	facts := list(lies(1, 1, 2), lies(2, 2, 3), reds(3, 3), lies(4, 3, 1))
	chain := steps(is(onKey), not(is(onKey, of(0, 0, 2)), is(redKey, of(0, 1, 0))), is(onKey, of(0, 0, 2)), is(api.Triple{}))
	want, counts := modelPartial(facts, chain), modelJoins(facts, chain)
	one, other := Partial(facts, chain), Partial(facts, chain)
	first, second := Joins(facts, chain), Joins(facts, chain)
	if len(want) < 4 || !alike(one, want) || !slices.Equal(first, counts) {
		t.Fatal(one, first)
	}
	for i := range one {
		full := one[i][:cap(one[i])]
		for k := range full {
			full[k] = -7
		}
		if !alike(one[i+1:], want[i+1:]) {
			t.Fatalf("the list %d shares memory with one behind it", i)
		}
	}
	full := first[:cap(first)]
	for i := range full {
		full[i] = -7
	}
	Partial(list(reds(9, 9), reds(8, 8)), steps(is(redKey), is(redKey), is(redKey)))
	Joins(facts, chain[:2])
	clear(facts)
	clear(chain)
	if !alike(other, want) || !slices.Equal(second, counts) {
		t.Error("an answer shares memory", other, second)
	}
}

// P14.1: calls answer the same again, whatever was called between.
func TestAgain(t *testing.T) {
	for seed := range int64(20) {
		r := rand.New(rand.NewSource(seed))
		facts, chain := anyFacts(r, 6, 2), anySteps(r, 1, 5, 0, 3)
		all := func() string {
			return fmt.Sprint(Partial(facts, chain), Joins(facts, chain), Any(facts, chain, nil), Blockers(facts, chain[1:1], chain[0]))
		}
		before := all()
		for range 20 {
			Partial(anyFacts(r, 5, 3), anySteps(r, 1, 4, 0, 3))
			if all() != before {
				t.Fatalf("seed %d: another answer", seed)
			}
		}
	}
}

// byBindings is what P14.2 says of a choice of facts for the Pos of conditions, plainly, by terms and bindings.
func byBindings(facts []api.Fact, l []api.Cond, chosen []api.Fact) bool {
	var b term.Bind
	for _, c := range l {
		switch c.Kind {
		case api.Pos:
			grown, ok := term.Fit(c.T, chosen[0].T, b)
			if !ok {
				return false
			}
			b, chosen = grown, chosen[1:]
		default:
			if !together(facts, []api.Cond{c}, b) {
				return false
			}
		}
	}
	return true
}

// together tells whether conditions are met together with what is bound.
func together(facts []api.Fact, l []api.Cond, b term.Bind) bool {
	if len(l) == 0 {
		return true
	}
	c, rest := l[0], l[1:]
	if c.Kind == api.Ncc {
		return !together(facts, c.Subs, b) && together(facts, rest, b)
	}
	fits := false
	for _, f := range facts {
		grown, ok := term.Fit(c.T, f.T, b)
		fits = fits || ok
		if ok && c.Kind == api.Pos && together(facts, rest, grown) {
			return true
		}
	}
	return c.Kind == api.Neg && !fits && together(facts, rest, b)
}

// isRule tells whether conditions are a rule's.
func isRule(l []api.Cond) bool { return rule.Check(api.Rule{Name: "r", Conds: l}) == api.OK }

// wantRule wants that the partial matches of a rule's steps are just the choices of facts that match by terms and bindings, in order; met is how many.
func wantRule(t *testing.T, facts []api.Fact, l []api.Cond) (met int) {
	t.Helper()
	if !isRule(l) {
		t.Fatalf("%v is no rule's", l)
	}
	chain := comp.Compile(l)
	var want [][]int
	for _, c := range choices(facts, countPos(chain)) {
		if byBindings(facts, l, c) {
			want = append(want, idsOf(c))
		}
	}
	if got := Partial(facts, chain); !alike(got, want) {
		t.Fatalf("Partial of %v in %v is %v, want %v", l, facts, got, want)
	}
	if Any(facts, chain, nil) != (len(want) > 0) || Joins(facts, chain)[len(chain)-1] != len(want) {
		t.Fatalf("Any or Joins of %v in %v: there are %d", l, facts, len(want))
	}
	return len(want)
}

// triples is all three terms of which each is one of these.
func triples(of ...api.Term) [][3]api.Term {
	var all [][3]api.Term
	for _, a := range of {
		for _, b := range of {
			for _, c := range of {
				all = append(all, [3]api.Term{a, b, c})
			}
		}
	}
	return all
}

// cube is a fact of each triple whose fields are some of these.
func cube(of ...int) []api.Fact {
	var l []api.Triple
	for _, a := range of {
		for _, b := range of {
			for _, c := range of {
				l = append(l, api.Triple{a, b, c})
			}
		}
	}
	return numbered(l)
}

// some is those of facts whose place is in a set of bits.
func some(facts []api.Fact, set int) []api.Fact {
	var l []api.Fact
	for i, f := range facts {
		if set&(1<<i) != 0 {
			l = append(l, f)
		}
	}
	return l
}

// P14.2: rules that are written out, and the choices that match them.
func TestRulesWritten(t *testing.T) {
	x, y, z, on, red := vr(1), vr(2), vr(3), sy(on), sy(red)
	facts := list(lies(1, 1, 2), lies(2, 2, 3), reds(3, 3), lies(4, 5, 5), lies(5, 4, 2), reds(6, 2))
	for _, c := range []struct {
		l    []api.Cond
		want [][]int
	}{
		{[]api.Cond{pos(x, on, y), pos(y, on, z)}, [][]int{{1, 2}, {4, 4}, {5, 2}}},
		{[]api.Cond{pos(x, on, x)}, [][]int{{4}}},
		{[]api.Cond{pos(x, on, y), neg(y, on, z)}, [][]int{{2}}},
		{[]api.Cond{pos(x, on, y), neg(z, on, x)}, [][]int{{1}, {5}}},
		{[]api.Cond{pos(x, on, y), neg(z, on, z)}, nil},
		{[]api.Cond{neg(z, sy(9), z), pos(x, on, sy(2))}, [][]int{{1}, {5}}},
		{[]api.Cond{pos(x, on, y), ncc(pos(y, on, z), pos(z, red, z))}, [][]int{{2}, {4}}},
		{[]api.Cond{pos(x, on, y), ncc(pos(y, on, z), neg(z, red, z))}, [][]int{{1}, {2}, {5}}},
		{[]api.Cond{pos(x, on, y), ncc(pos(z, on, y), ncc(pos(z, on, x))), pos(y, red, y)}, nil},
		{[]api.Cond{pos(x, on, y), ncc(pos(z, on, y), neg(z, red, z)), pos(y, red, y)}, [][]int{{2, 3}}},
		{[]api.Cond{pos(x, red, x), ncc(ncc(pos(y, on, x), neg(z, on, y)))}, [][]int{{6}}},
		{[]api.Cond{pos(x, y, z), pos(z, y, x)}, [][]int{{3, 3}, {4, 4}, {6, 6}}},
	} {
		wantRule(t, facts, c.l)
		if got := Partial(facts, comp.Compile(c.l)); !alike(got, c.want) {
			t.Errorf("Partial of %v is %v, want %v", c.l, got, c.want)
		}
	}
}

// P14.2: one condition of each kind, of all terms, in all sets of eight facts.
func TestRulesOfOne(t *testing.T) {
	met, all := 0, cube(1, 2)
	for _, l := range triples(vr(1), vr(2), vr(32), sy(1), sy(2)) {
		for set := 0; set < 256; set += 5 {
			for _, c := range []api.Cond{{Kind: api.Pos, T: l}, {Kind: api.Neg, T: l}, ncc(api.Cond{Kind: api.Pos, T: l}), ncc(ncc(api.Cond{Kind: api.Neg, T: l}))} {
				met += wantRule(t, some(all, set), []api.Cond{c})
			}
		}
	}
	if met < 10000 {
		t.Errorf("only %d met", met)
	}
}

// P14.2: behind a Pos, a condition of each kind of all terms: bound ahead, twice in it, first in a Neg, first in an Ncc, and symbols.
func TestRulesOfTwo(t *testing.T) {
	met, asked, all := 0, 0, cube(1, 2)
	for _, ahead := range triples(vr(1), vr(2), sy(1)) {
		first := api.Cond{Kind: api.Pos, T: ahead}
		for i, l := range triples(vr(1), vr(2), vr(3), sy(1), sy(2)) {
			p, n := api.Cond{Kind: api.Pos, T: l}, api.Cond{Kind: api.Neg, T: l}
			for k, set := range []int{0b10010110, 0b01101011, 1 << (i % 8)} {
				for _, second := range []api.Cond{p, n, ncc(p), ncc(n), ncc(ncc(p)), ncc(ncc(n)), ncc(p, neg(vr(3), vr(1), vr(2))), ncc(pos(vr(3), vr(2), vr(1)), n), ncc(pos(vr(2), sy(1), vr(4)), ncc(p, n))} {
					for _, conds := range [][]api.Cond{{first, second}, {second, first}, {first, second, pos(vr(1), vr(5), vr(2))}} {
						if isRule(conds) && (k < 2 || i%2 == 0) {
							asked++
							met += wantRule(t, some(all, set), conds)
						}
					}
				}
			}
		}
	}
	if asked < 30000 || met < 50000 {
		t.Errorf("only %d asked, %d met", asked, met)
	}
}

// anyConds is conditions by chance: Pos and Neg, and, at most so deep, Ncc.
func anyConds(r *rand.Rand, most, deep int) []api.Cond {
	var l []api.Cond
	for range 1 + r.Intn(most) {
		c := api.Cond{Kind: 1 + r.Intn(5)/3}
		if deep > 1 && r.Intn(3) == 0 {
			c = ncc(anyConds(r, 2, deep-1)...)
		} else {
			for f := range c.T {
				if c.T[f] = sy(1 + r.Intn(2)); r.Intn(3) > 0 {
					c.T[f] = vr(1 + r.Intn(5))
				}
			}
		}
		l = append(l, c)
	}
	return l
}

// P14.2: rules by chance, in facts by chance.
func TestRulesRandom(t *testing.T) {
	for seed := range int64(10) {
		r := rand.New(rand.NewSource(seed))
		asked, deep, met := 0, 0, 0
		for asked < 2000 {
			l := anyConds(r, 4, 3)
			if !isRule(l) {
				continue
			}
			asked++
			n := wantRule(t, anyFacts(r, 6, 2), l)
			met += n
			if n > 0 && slices.ContainsFunc(l, func(c api.Cond) bool { return c.Kind == api.Ncc }) {
				deep++
			}
		}
		if deep < 200 || met < 1000 {
			t.Errorf("seed %d: only %d with an Ncc, %d met", seed, deep, met)
		}
	}
}

// What the chapter leaves out ends, and doesn't panic: steps that aren't right, such as stand in themselves, and facts whose triples aren't right.
func TestLeftOut(t *testing.T) {
	self := make([]api.Step, 2)
	self[0], self[1] = not(self...), not(self...)
	wrong := steps(
		api.Step{}, api.Step{Kind: 4}, api.Step{Kind: -1}, not(), not(api.Step{}), self[0], not(is(onKey), self[1]), api.Step{Kind: api.Pos, Subs: self},
		not(not(not(is(onKey)))), not(slices.Repeat(steps(no(onKey)), 100)...), is(api.Triple{-1, 5000, math.MinInt}),
		is(onKey, of(3, 0, 0)), no(onKey, of(0, 0, -1)), is(onKey, of(0, 16, 0)), no(onKey, of(0, math.MinInt, 3)), is(onKey, of(0, -1, 0), of(0, -1, 0)),
		is(onKey, of(0, 15, 0)), no(onKey, of(0, 15, 0)), api.Step{Kind: api.Ncc, Key: onKey, Subs: steps(is(onKey))},
	)
	for _, facts := range [][]api.Fact{nil, list(lies(1, 1, 2), reds(1, 1)), {{}, {Id: math.MinInt, T: api.Triple{-1, 5000, math.MaxInt}}}} {
		for _, a := range wrong {
			for _, chain := range [][]api.Step{steps(a), steps(is(onKey), a), steps(a, is(onKey)), steps(no(api.Triple{9, 9, 9}), not(is(onKey)), a), steps(a, not(a))} {
				Partial(facts, chain)
				Joins(facts, chain)
				Blockers(facts, chain, a)
				Blockers(facts, nil, a)
				for n := range len(facts) + 1 {
					Any(facts, chain, facts[:n])
				}
			}
		}
	}
}
