package net

import (
	"fmt"
	"math"
	"math/rand"
	"slices"
	"testing"

	"retiary/api"
	"retiary/comp"
	"retiary/term"
)

// of is a test.
func of(field, back, other int) api.Test { return api.Test{Field: field, Back: back, Other: other} }

// is, no and not are a Pos, a Neg and an Ncc step.
func is(k api.Triple, tests ...api.Test) api.Step {
	return api.Step{Kind: api.Pos, Key: k, Tests: tests}
}
func no(k api.Triple, tests ...api.Test) api.Step {
	return api.Step{Kind: api.Neg, Key: k, Tests: tests}
}
func not(subs ...api.Step) api.Step { return api.Step{Kind: api.Ncc, Subs: subs} }

// steps is steps one behind the other.
func steps(l ...api.Step) []api.Step { return l }

// The symbols by which most facts are told apart, and the keys of what has them.
const on, red = 7, 8

var onKey, redKey = api.Triple{0, on, 0}, api.Triple{0, red, 0}

// lies and reds are the triples of one thing on another one, and of a red thing.
func lies(a, b int) api.Triple { return api.Triple{a, on, b} }
func reds(a int) api.Triple    { return api.Triple{a, red, a} }

// below is that something lies below the thing on which the first one lies, free that nothing does.
func below() api.Step { return is(onKey, of(0, 0, 2)) }
func free() api.Step  { return no(onKey, of(0, 0, 2)) }

// P19.1: what the chapter's example says.
func TestExample(t *testing.T) {
	x, y, z := term.Var(1), term.Var(2), term.Var(3)
	p := newPair(t)
	p.addRule("r", comp.Compile([]api.Cond{{Kind: api.Pos, T: [3]api.Term{x, term.Sym(on), y}}, {Kind: api.Pos, T: [3]api.Term{y, term.Sym(on), z}}})...)
	p.addFact(1, lies(1, 2))
	p.addFact(2, lies(2, 3))
	p.wantMatches("r", []int{1, 2})
	p.removeFact(2)
	p.wantMatches("r")
	p.wantCounts(4, 2, 1, 0)
	p.clear()
}

// P19.1: a new net is the top alone, with unlinking and without.
func TestNew(t *testing.T) {
	p := newPair(t)
	p.wantEmpty()
	for _, n := range p.nets() {
		if l := n.At(nil); len(l) != 1 || len(l[0]) != 0 {
			t.Error("At of no steps:", l)
		}
		if l := n.At([]api.Step{}); len(l) != 1 || len(l[0]) != 0 {
			t.Error("At of no steps:", l)
		}
		if l, e := n.Matches(""); len(l) != 0 || e != api.ErrRule {
			t.Error("Matches:", l, e)
		}
		if left, right := n.Calls(); left != 0 || right != 0 || len(n.Rules()) != 0 || len(n.All()) != 0 {
			t.Error(left, right, n.Rules(), n.All())
		}
	}
	p.wantNowhere(is(onKey))
	p.removeFact(1)
	p.removeRule("")
	p.wantEmpty()
}

// P19.1: AddFact refuses an id below 1 and one that is there, whatever its triple, and this changes nothing; each other id is good.
func TestAddFact(t *testing.T) {
	p := newPair(t)
	p.addRule("r", is(onKey), free())
	for _, id := range []int{0, -1, -2, math.MinInt, math.MinInt32} {
		p.addFact(id, lies(1, 2))
		p.wantMatches("r")
	}
	for _, id := range []int{5, 1, 3, math.MaxInt, 2, 1 << 40} {
		p.addFact(id, lies(id%100, 9))
		p.look()
		p.addFact(id, lies(id%100, 9))
		p.addFact(id, lies(9, 9))
		p.addFact(id, reds(1))
		p.addFact(id, api.Triple{})
		p.look()
	}
	p.wantMatches("r", []int{1}, []int{2}, []int{3}, []int{5}, []int{1 << 40}, []int{math.MaxInt})
	p.clear()
}

// P19.1: the same triple under two ids is two facts.
func TestAlikeFacts(t *testing.T) {
	p := newPair(t)
	p.addRule("two", is(onKey), below())
	p.addRule("none", is(redKey), no(onKey, of(0, 0, 0)))
	p.addFact(4, lies(1, 1))
	p.wantMatches("two", []int{4, 4})
	p.addFact(2, lies(1, 1))
	p.wantMatches("two", []int{2, 2}, []int{2, 4}, []int{4, 2}, []int{4, 4})
	p.addFact(9, reds(1))
	p.addFact(8, reds(1))
	p.wantMatches("none")
	p.wantCounts(1+4+2, 1+2+4+2, 2, 4)
	p.removeFact(4)
	p.wantMatches("two", []int{2, 2})
	p.wantMatches("none")
	p.removeFact(2)
	p.wantMatches("none", []int{8}, []int{9})
	p.removeFact(8)
	p.wantMatches("none", []int{9})
	p.clear()
}

// P19.1: RemoveFact of an id that is there, of one that isn't, and twice.
func TestRemoveFact(t *testing.T) {
	p := newPair(t)
	p.addRule("r", is(onKey), below(), is(redKey, of(0, 1, 2)))
	p.addFact(3, lies(1, 2))
	p.addFact(1, lies(2, 3))
	p.addFact(2, reds(3))
	p.wantMatches("r", []int{3, 1, 2})
	for _, id := range []int{4, 0, -1, -3, math.MinInt, math.MaxInt} {
		p.removeFact(id)
		p.wantMatches("r", []int{3, 1, 2})
	}
	for range 3 {
		p.removeFact(1)
		p.wantMatches("r")
	}
	p.wantCounts(5, 2, 2, 0)
	p.addFact(1, lies(2, 3))
	p.wantMatches("r", []int{3, 1, 2})
	p.addFact(7, lies(2, 4))
	p.removeFact(7)
	p.wantMatches("r", []int{3, 1, 2})
	p.clear()
}

// P19.1: AddRule of a name that is there is ErrTwice, whatever its steps; of no steps ErrEmpty; both change nothing.
func TestAddRule(t *testing.T) {
	p := newPair(t)
	p.addFact(1, lies(1, 2))
	p.addRule("r")
	p.addRule("", steps()...)
	p.wantCounts(1, 1, 0, 0)
	p.addRule("r", is(onKey))
	for _, l := range [][]api.Step{nil, {}, {is(onKey)}, {is(redKey), no(onKey)}, {api.Step{}}, {api.Step{Kind: 9}}} {
		p.addRule("r", l...)
		p.wantMatches("r", []int{1})
		p.addRule("none", l[:0]...)
		p.wantCounts(3, 2, 1, 0)
	}
	p.removeRule("r")
	p.addRule("r")
	p.wantEmpty()
	p.addRule("r", is(redKey))
	p.wantMatches("r")
	p.clear()
}

// P19.1: names may be any, in any order, the empty one, too; Rules tells them rising by bytes, and Matches of each its own.
func TestNames(t *testing.T) {
	p := newPair(t)
	names := []string{"b", "", "B", "\xff", "a b", "a", "é", "ab", "\x00"}
	for i, name := range names {
		p.addFact(i+1, lies(i+1, 50))
		p.addRule(name, is(api.Triple{i + 1, on, 0}))
		p.look()
	}
	for i, name := range names {
		p.wantMatches(name, []int{i + 1})
	}
	if l := p.with.Rules(); !slices.Equal(l, []string{"", "\x00", "B", "a", "a b", "ab", "b", "é", "\xff"}) {
		t.Errorf("%q", l)
	}
	for i, name := range names {
		p.removeRule(name)
		if _, e := p.with.Matches(name); e != api.ErrRule {
			t.Error(e)
		}
		p.wantCounts(1+2*(len(names)-i-1), 1+len(names)-i-1, len(names)-i-1, 0)
	}
	p.clear()
}

// P19.1: two names with the same steps share all nodes; there is one node more for each name.
func TestSameSteps(t *testing.T) {
	p := newPair(t)
	l := steps(is(onKey), not(below(), is(redKey, of(0, 1, 2))), no(redKey, of(0, 0, 0)))
	p.addFact(1, lies(1, 2))
	p.addRule("a", l...)
	p.wantCounts(7, 6-1-1, 2, 0)
	p.addRule("b", l...)
	p.wantCounts(8, 4, 2, 0)
	p.addFact(2, lies(2, 3))
	p.addFact(3, reds(3))
	p.wantMatches("a", []int{2})
	p.wantMatches("b", []int{2})
	p.removeRule("a")
	p.wantMatches("b", []int{2})
	p.wantCounts(7, 7, 2, 0)
	p.removeFact(3)
	p.wantMatches("b", []int{1}, []int{2})
	p.clear()
}

// P19.1: RemoveRule of a name that is there, of one that isn't, and twice; what another rule has, or begins with, or has in an Ncc, stays.
func TestRemoveRule(t *testing.T) {
	p := newPair(t)
	p.addFact(1, lies(1, 2))
	p.addFact(2, lies(2, 3))
	p.addFact(3, reds(2))
	p.addRule("short", is(onKey))
	p.addRule("long", is(onKey), below(), is(redKey, of(0, 0, 2)))
	p.addRule("other", is(onKey), not(below(), is(redKey, of(0, 0, 2))), free())
	p.addRule("same", is(onKey), below(), is(redKey, of(0, 0, 2)))
	p.wantMatches("long", []int{1, 2, 3})
	p.wantCounts(1+5+4, 1+2+1+1+1+1, 2, 0)
	for _, name := range []string{"", "shor", "shortt", "Long"} {
		p.removeRule(name)
		p.look()
	}
	for range 2 {
		p.removeRule("long")
		p.wantCounts(1+5+3, 7, 2, 0)
	}
	p.removeRule("same")
	p.wantCounts(1+5+2, 7, 2, 0)
	p.wantMatches("other", []int{2})
	p.removeRule("other")
	p.wantCounts(1+1+1, 1+2, 1, 0)
	p.wantNowhere(is(onKey), below())
	p.wantMatches("short", []int{1}, []int{2})
	p.addRule("other", is(onKey), free())
	p.removeRule("short")
	p.wantMatches("other", []int{2})
	p.wantCounts(1+2+1, 1+2+1, 1, 1)
	p.removeRule("other")
	p.wantCounts(1, 1, 0, 0)
	p.clear()
}

// P19.1: matches are in the order of their ids, by the first one, then by the second one, however the facts came.
func TestOrder(t *testing.T) {
	for _, ids := range [][]int{{1, 2, 3, 4}, {4, 3, 2, 1}, {30, 4, 200, 1}, {2, 100, 11, 12}} {
		p := newPair(t)
		p.addRule("r", is(onKey), is(onKey))
		p.addRule("last", is(onKey), is(onKey), is(redKey))
		for i, id := range ids {
			p.addFact(id, lies(9-i, i))
			p.look()
		}
		p.addFact(7, reds(1))
		var want, last [][]int
		rising := slices.Sorted(slices.Values(ids))
		for _, a := range rising {
			for _, b := range rising {
				want, last = append(want, []int{a, b}), append(last, []int{a, b, 7})
			}
		}
		p.wantMatches("r", want...)
		p.wantMatches("last", last...)
		for _, n := range p.nets() {
			if l := n.At(steps(is(onKey), is(onKey))); text(l) != text(want) {
				t.Error(l)
			}
		}
		p.clear()
	}
}

// P19.1: At of a chain that is a node's, of one that isn't, of one that was and is no more, and of no steps.
func TestAt(t *testing.T) {
	p := newPair(t)
	above := is(onKey, of(2, 0, 0))
	p.addRule("r", is(onKey), not(above, no(redKey, of(0, 1, 0))), below())
	p.addFact(1, lies(1, 2))
	p.addFact(2, lies(2, 3))
	at := func(want string, chain ...api.Step) {
		t.Helper()
		for _, n := range p.nets() {
			if l := n.At(chain); text(l) != want {
				t.Errorf("%v: At(%v) are %v, want %s", p.row, chain, l, want)
			}
		}
	}
	at("[[]]")
	at("[[1] [2]]", is(onKey))
	at("[[2 1]]", is(onKey), above)
	at("[[2 1]]", is(onKey), above, no(redKey, of(0, 1, 0)))
	at("[[1]]", is(onKey), not(above, no(redKey, of(0, 1, 0))))
	at("[[1 2]]", is(onKey), not(above, no(redKey, of(0, 1, 0))), below())
	p.wantNowhere(above)
	p.wantNowhere(is(redKey))
	p.wantNowhere(no(onKey))
	p.wantNowhere(is(onKey), below())
	p.wantNowhere(is(onKey), not(above))
	p.wantNowhere(is(onKey), is(onKey, of(2, 0, 0), of(2, 0, 0)))
	p.wantNowhere(api.Step{})
	p.wantNowhere(slices.Repeat(steps(is(onKey)), 20)...)
	p.addRule("other", is(onKey))
	p.removeRule("r")
	at("[[]]")
	at("[[1] [2]]", is(onKey))
	p.wantNowhere(is(onKey), above)
	p.wantNowhere(is(onKey), not(above, no(redKey, of(0, 1, 0))))
	p.removeRule("other")
	p.wantNowhere(is(onKey))
	at("[[]]")
	p.clear()
}

// orders is all orders of the numbers up to n.
func orders(n int) [][]int {
	if n == 0 {
		return [][]int{nil}
	}
	var all [][]int
	for _, l := range orders(n - 1) {
		for i := range n {
			all = append(all, slices.Insert(slices.Clone(l), i, n-1))
		}
	}
	return all
}

// P19.1: rules before facts, facts before rules, and both mixed come to one, and so do all orders in which they go again.
func TestOrders(t *testing.T) {
	come := []func(p *pair){
		func(p *pair) { p.addFact(1, lies(1, 2)) },
		func(p *pair) { p.addFact(2, lies(2, 2)) },
		func(p *pair) { p.addFact(3, reds(2)) },
		func(p *pair) { p.addRule("a", is(onKey), below(), no(redKey, of(0, 0, 0))) },
		func(p *pair) {
			p.addRule("b", is(onKey), not(below(), is(redKey, of(0, 1, 2)), no(onKey, of(0, 1, 2), of(2, 0, 0))), is(onKey))
		},
	}
	leave := []func(p *pair){
		func(p *pair) { p.removeFact(1) }, func(p *pair) { p.removeFact(2) }, func(p *pair) { p.removeFact(3) },
		func(p *pair) { p.removeRule("a") }, func(p *pair) { p.removeRule("b") },
	}
	all := orders(len(come))
	for i, order := range all {
		p := newPair(t)
		for _, k := range order {
			come[k](p)
			p.look()
		}
		p.wantMatches("a", []int{1, 2})
		p.wantMatches("b", []int{2, 1}, []int{2, 2})
		for _, k := range all[i*7%len(all)] {
			leave[k](p)
			p.look()
		}
		p.wantEmpty()
	}
}

// P19.1: facts go and come again, rules go and come again: all is as it was, but that nodes that come again have new numbers.
func TestAgain(t *testing.T) {
	p := newPair(t)
	l := steps(is(onKey), below(), not(is(redKey, of(0, 1, 2)), no(redKey, of(0, 0, 0))))
	p.addRule("r", l...)
	p.addFact(1, lies(1, 2))
	p.addFact(2, lies(2, 3))
	for range 3 {
		p.wantMatches("r", []int{1, 2})
		p.addFact(3, reds(3))
		p.wantMatches("r")
		p.addFact(4, reds(1))
		p.wantMatches("r", []int{1, 2})
		p.removeFact(3)
		p.removeFact(4)
		p.wantMatches("r", []int{1, 2})
		p.removeFact(1)
		p.wantMatches("r")
		p.addFact(1, lies(1, 2))
	}
	for i := range 3 {
		p.removeRule("r")
		p.wantCounts(1, 1, 0, 0)
		p.addRule("r", l...)
		p.wantMatches("r", []int{1, 2})
		if x := p.with.All()[0]; x.Id != 2+5*(i+1) {
			t.Error(x)
		}
	}
	p.clear()
}

// P19.1: a Neg with no, one and several facts that block a token, whose blockers go one by one, in whatever order.
func TestNeg(t *testing.T) {
	for _, order := range orders(3) {
		p := newPair(t)
		p.addRule("r", is(redKey), no(onKey, of(2, 0, 0)), is(redKey))
		p.addFact(1, reds(1))
		p.wantMatches("r", []int{1, 1})
		p.wantCounts(5, 4, 2, 0)
		p.addFact(2, lies(5, 1))
		p.wantMatches("r")
		p.wantCounts(5, 2, 2, 1)
		p.addFact(3, lies(6, 1))
		p.addFact(4, lies(5, 1))
		p.addFact(5, lies(5, 9))
		p.wantCounts(5, 2, 2, 3)
		for i, k := range order {
			p.wantMatches("r")
			p.removeFact(2 + k)
			p.wantCounts(5, 2+i/2*2, 2, 2-i)
		}
		p.wantMatches("r", []int{1, 1})
		p.clear()
	}
}

// P19.1: one fact blocks several tokens, and facts block where they are no token's; a Neg stands first, behind nothing, too.
func TestNegs(t *testing.T) {
	p := newPair(t)
	p.addRule("first", no(redKey), is(onKey))
	p.addRule("alone", no(onKey))
	p.addRule("none", no(redKey), no(onKey, of(2, -1, 0)))
	p.wantMatches("alone", nil)
	p.wantMatches("none", nil)
	p.addFact(1, lies(1, 2))
	p.wantMatches("first", []int{1})
	p.wantMatches("alone")
	p.wantMatches("none", nil)
	p.addFact(2, lies(2, 2))
	p.wantMatches("none")
	p.wantCounts(1+4+3, 1+1+2, 2, 2+1)
	p.addFact(3, reds(9))
	p.wantMatches("first")
	p.wantCounts(1+4+3, 1, 2, 1+2)
	p.addFact(4, reds(9))
	p.removeFact(3)
	p.wantMatches("first")
	p.removeFact(4)
	p.wantMatches("first", []int{1}, []int{2})
	p.removeFact(2)
	p.removeFact(1)
	p.wantMatches("alone", nil)
	p.clear()
}

// P19.1: an Ncc with a Pos, a Neg and an Ncc in it, three deep, whose inner matches come and go.
func TestNcc(t *testing.T) {
	p := newPair(t)
	green := api.Triple{0, 9, 0}
	// What doesn't lie on a thing that lies on a red one; but it may, if the red one is green, or if it is green itself and nothing green is towards it.
	p.addRule("r", is(onKey), not(below(), is(redKey, of(0, 1, 2)), no(green, of(0, 1, 2)), not(is(green, of(0, 0, 0)), no(green, of(2, 0, 0)))))
	p.addFact(1, lies(1, 2))
	p.wantMatches("r", []int{1})
	p.addFact(2, lies(2, 3))
	p.wantMatches("r", []int{1}, []int{2})
	p.addFact(3, reds(3))
	p.wantMatches("r", []int{2})
	p.addFact(4, api.Triple{3, 9, 3})
	p.wantMatches("r", []int{1}, []int{2})
	p.removeFact(4)
	p.wantMatches("r", []int{2})
	p.addFact(5, api.Triple{1, 9, 5})
	p.wantMatches("r", []int{1}, []int{2})
	p.addFact(6, api.Triple{6, 9, 1})
	p.wantMatches("r", []int{2})
	p.addFact(7, api.Triple{6, 9, 1})
	p.addFact(8, reds(3))
	p.removeFact(6)
	p.wantMatches("r", []int{2})
	p.removeFact(3)
	p.wantMatches("r", []int{2})
	p.removeFact(7)
	p.wantMatches("r", []int{1}, []int{2})
	p.removeFact(5)
	p.wantMatches("r", []int{2})
	p.removeFact(8)
	p.wantMatches("r", []int{1}, []int{2})
	p.clear()
}

// P19.1: an Ncc that several inner matches hold up, which go one by one, and with what is ahead of it.
func TestNccBlockers(t *testing.T) {
	for _, order := range orders(3) {
		p := newPair(t)
		p.addRule("r", is(onKey), not(is(redKey, of(0, 0, 2)), is(redKey)), is(onKey))
		p.addFact(1, lies(1, 2))
		p.wantMatches("r", []int{1, 1})
		for i := range 3 {
			p.addFact(2+i, reds(2))
			p.wantMatches("r")
			p.wantCounts(7, 1+1+(i+1)+(i+1)*(i+1), 2, 0)
		}
		for _, k := range order {
			p.wantMatches("r")
			p.removeFact(2 + k)
		}
		p.wantMatches("r", []int{1, 1})
		p.addFact(2, reds(2))
		p.removeFact(1)
		p.wantCounts(7, 1, 2, 0)
		p.clear()
	}
}

// P19.1: Nccs first of all, of Negs alone, and in each other with nothing between.
func TestNccsOfNone(t *testing.T) {
	p := newPair(t)
	p.addRule("a", not(no(onKey)), is(redKey))
	p.addRule("b", not(not(no(onKey))))
	p.addRule("c", not(not(is(onKey), no(redKey, of(0, 0, 0)))), not(no(onKey)))
	p.addRule("d", not(is(onKey)), not(is(redKey)), not(is(onKey), is(redKey)))
	p.wantMatches("b", nil)
	p.wantMatches("d", nil)
	p.addFact(1, reds(1))
	p.wantMatches("a")
	p.wantMatches("d")
	p.addFact(2, lies(1, 1))
	p.wantMatches("a", []int{1})
	p.wantMatches("b")
	p.wantMatches("c")
	p.addFact(3, lies(2, 2))
	p.wantMatches("c", nil)
	p.removeFact(2)
	p.wantMatches("c", nil)
	p.removeFact(1)
	p.removeFact(3)
	p.wantMatches("b", nil)
	p.wantMatches("d", nil)
	p.clear()
}

// P19.1: a fact that is beside several nodes of one chain at once is matched with itself, and with all others, once.
func TestBesideSeveral(t *testing.T) {
	for k := 1; k <= 4; k++ {
		p := newPair(t)
		p.addRule("r", slices.Repeat(steps(is(onKey)), k)...)
		p.addRule("all", append(slices.Repeat(steps(is(api.Triple{})), k-1), is(onKey))...)
		n := 1
		for i := range 3 {
			p.addFact(i+1, lies(i+1, 1))
			p.look()
			n = 1
			for range k {
				n *= i + 1
			}
			if l, _ := p.with.Matches("r"); len(l) != n {
				t.Errorf("%d facts, %d steps: %d matches", i+1, k, len(l))
			}
		}
		p.removeFact(2)
		p.look()
		p.clear()
	}
	p := newPair(t)
	p.addRule("r", is(onKey), no(onKey, of(0, 0, 2), of(2, 0, 0)), is(onKey), not(is(onKey, of(0, 1, 2)), no(onKey, of(0, 2, 2))), is(onKey))
	for i, a := range []api.Triple{lies(1, 1), lies(1, 2), lies(2, 1), lies(2, 3), lies(3, 3)} {
		p.addFact(i+1, a)
		p.look()
	}
	for _, id := range []int{3, 1, 5, 2} {
		p.removeFact(id)
		p.look()
	}
	p.clear()
}

// P19.1: an Ncc whose inner chain ends in a Neg, beside a node behind it with the same key: one fact lets a token through and meets it behind, or takes away what holds it up.
func TestInnerNeg(t *testing.T) {
	p := newPair(t)
	p.addRule("pos", is(redKey), not(no(onKey, of(0, 0, 0))), is(onKey, of(0, 0, 0)))
	p.addRule("neg", is(redKey), not(is(redKey), no(onKey, of(0, 1, 0))), no(onKey, of(0, 0, 0)))
	p.addRule("both", is(redKey), not(no(onKey, of(0, 0, 0))), no(onKey, of(2, 0, 0)), is(onKey))
	p.addFact(1, reds(1))
	p.wantMatches("pos")
	p.wantMatches("neg")
	p.addFact(2, lies(1, 5))
	p.wantMatches("pos", []int{1, 2})
	p.wantMatches("neg")
	p.wantMatches("both", []int{1, 2})
	p.addFact(3, lies(1, 1))
	p.wantMatches("pos", []int{1, 2}, []int{1, 3})
	p.wantMatches("both")
	p.removeFact(2)
	p.wantMatches("pos", []int{1, 3})
	p.removeFact(3)
	p.wantMatches("pos")
	p.addFact(4, reds(2))
	p.addFact(5, lies(2, 1))
	p.wantMatches("pos", []int{4, 5})
	p.wantMatches("both", []int{4, 5})
	p.addFact(6, lies(1, 2))
	p.wantMatches("neg")
	p.wantMatches("both")
	p.clear()
}

// P19.1: the same step twice in a chain, of each kind, and the same key in a Pos and in a Neg.
func TestSameStep(t *testing.T) {
	rules := [][]api.Step{
		steps(is(onKey), is(onKey)), steps(no(redKey), no(redKey), is(onKey)), steps(is(onKey), free(), free()),
		steps(not(is(redKey)), not(is(redKey)), is(onKey)), steps(is(onKey), not(below()), not(below()), is(redKey)),
		steps(is(onKey), no(onKey)), steps(no(onKey), is(onKey)), steps(is(onKey), free(), is(onKey)), steps(is(onKey), below(), free(), is(onKey, of(0, 1, 2))),
		steps(is(onKey), not(free(), is(onKey)), free()),
	}
	for _, l := range rules {
		p := newPair(t)
		p.addRule("r", l...)
		for id, a := range []api.Triple{lies(1, 2), lies(2, 2), reds(1), lies(3, 1), reds(1)} {
			p.addFact(id+1, a)
			p.look()
		}
		p.addRule("again", l...)
		p.look()
		for _, id := range []int{4, 2, 5} {
			p.removeFact(id)
			p.look()
		}
		p.clear()
	}
}

// P19.1: nodes that are one Ncc's inner ones and stand in another rule, too, and inner nodes of several Nccs, below several parents.
func TestInnerShared(t *testing.T) {
	rules := map[string][]api.Step{
		"a": steps(is(onKey), below(), is(redKey, of(0, 1, 2))),
		"b": steps(is(onKey), not(below(), is(redKey, of(0, 1, 2)))),
		"c": steps(not(is(onKey), below(), is(redKey, of(0, 1, 2))), is(onKey)),
		"d": steps(is(onKey), below(), not(is(redKey, of(0, 1, 2))), not(is(redKey))),
	}
	for _, order := range orders(4) {
		p := newPair(t)
		names := []string{"a", "b", "c", "d"}
		p.addFact(1, lies(1, 2))
		p.addFact(2, lies(2, 3))
		for i, k := range order {
			p.addRule(names[k], rules[names[k]]...)
			p.look()
			p.addFact(10+i, reds(1+i))
			p.look()
		}
		p.removeFact(12)
		p.wantMatches("b", []int{1}, []int{2})
		p.wantMatches("c", []int{1}, []int{2})
		p.addFact(12, reds(3))
		p.wantMatches("a", []int{1, 2, 12})
		p.wantMatches("b", []int{2})
		p.wantMatches("c")
		for _, k := range order[:3] {
			p.removeRule(names[k])
			p.look()
			p.removeFact(12)
			p.look()
			p.addFact(12, reds(3))
			p.look()
		}
		p.clear()
	}
}

// P19.1: what was handed in, and changed behind, changes nothing; and nothing is written into it, nor behind it.
func TestHandedIn(t *testing.T) {
	fresh := func() []api.Step {
		return steps(is(onKey), is(onKey, of(0, 0, 2)), not(is(redKey, of(0, 1, 2)), no(onKey, of(2, 0, 0))))
	}
	spoil := func(l []api.Step) {
		l[0] = no(redKey)
		l[1].Tests[0] = of(2, 0, 1)
		l[1].Key = redKey
		l[2].Subs[0].Tests[0].Back = 0
		l[2].Subs[1] = is(redKey)
	}
	p := newPair(t)
	p.addFact(1, lies(1, 2))
	l := append(fresh(), is(redKey), is(redKey))
	for _, n := range p.nets() {
		n.AddRule("r", l[:3])
	}
	p.m.addRule("r", fresh())
	if fmt.Sprint(l) != fmt.Sprint(append(fresh(), is(redKey), is(redKey))) {
		t.Error("AddRule wrote into it:", l)
	}
	spoil(l)
	p.look()
	p.addFact(2, lies(2, 3))
	p.wantMatches("r", []int{1, 2})
	l = append(fresh(), is(redKey))
	for _, n := range p.nets() {
		if got := n.At(l[:2]); text(got) != "[[1 2]]" || fmt.Sprint(l) != fmt.Sprint(append(fresh(), is(redKey))) {
			t.Error("At:", got, l)
		}
	}
	spoil(l)
	p.look()
	p.addFact(3, reds(3))
	p.wantMatches("r")
	p.addFact(4, lies(4, 1))
	p.wantMatches("r", []int{1, 2}, []int{4, 1})
	p.addRule("again", fresh()...)
	p.look()
	p.clear()
}

// P19.1: what was told, and changed behind, changes nothing; and stays as it was, whatever comes later.
func TestTold(t *testing.T) {
	p := newPair(t)
	p.addRule("r", is(onKey), is(onKey))
	p.addRule("s", is(onKey), free())
	p.addFact(1, lies(1, 2))
	p.addFact(2, lies(2, 3))
	for _, n := range p.nets() {
		tell := func() ([][][]int, []string, []Node) {
			r, _ := n.Matches("r")
			s, _ := n.Matches("s")
			return [][][]int{r, s, n.At(steps(is(onKey), is(onKey))), n.At(nil)}, n.Rules(), n.All()
		}
		lists, names, nodes := tell()
		was := fmt.Sprint(lists, names, nodes)
		for i, l := range lists {
			for k, ids := range l {
				ids = ids[:cap(ids)]
				for j := range ids {
					ids[j] = 77
				}
				for _, other := range slices.Concat(l[k+1:], slices.Concat(lists[i+1:]...)) {
					if slices.Contains(other, 77) {
						t.Fatal("two lists share memory", lists)
					}
				}
			}
			clear(l[:cap(l)])
		}
		clear(names[:cap(names)])
		clear(nodes[:cap(nodes)])
		lists, names, nodes = tell()
		if now := fmt.Sprint(lists, names, nodes); now != was {
			t.Errorf("%s, was %s", now, was)
		}
		p.look()
	}
	lists, _ := p.with.Matches("r")
	names, nodes := p.with.Rules(), p.with.All()
	was := fmt.Sprint(lists, names, nodes)
	p.addFact(3, lies(3, 4))
	p.addRule("a", is(redKey))
	p.removeRule("s")
	p.removeFact(1)
	if now := fmt.Sprint(lists, names, nodes); now != was {
		t.Errorf("%s, was %s", now, was)
	}
	p.clear()
}

// P19.1: two nets know nothing of each other.
func TestTwoNets(t *testing.T) {
	a, b := newPair(t), newPair(t)
	a.addRule("r", is(onKey))
	b.addFact(1, lies(1, 2))
	a.look()
	b.look()
	b.addRule("r", no(onKey))
	a.addFact(1, lies(2, 1))
	a.wantMatches("r", []int{1})
	b.wantMatches("r")
	b.clear()
	a.wantMatches("r", []int{1})
	a.clear()
}

// P19.2: how nodes are linked, as numbers beside and above them come and go: a Pos by layer 18, a Neg right just if a token is above it, an Ncc always.
func TestLinks(t *testing.T) {
	p := newPair(t)
	p.addRule("r", is(onKey), is(redKey, of(0, 0, 2)), no(redKey, of(0, 0, 0)), not(is(onKey, of(0, 0, 2))))
	p.wantAll(
		Node{Id: 2, Kind: api.Pos, Above: 1, Right: true}, Node{Id: 3, Kind: api.Pos, Left: true}, Node{Id: 4, Kind: api.Neg, Left: true},
		Node{Id: 5, Kind: api.Pos, Left: true}, Node{Id: 6, Kind: api.Ncc, Left: true, Right: true})
	p.addFact(1, lies(1, 2))
	p.wantAll(
		Node{Id: 2, Kind: api.Pos, Items: 1, Above: 1, Own: 1, Left: true, Right: true}, Node{Id: 3, Kind: api.Pos, Above: 1, Right: true}, Node{Id: 4, Kind: api.Neg, Left: true},
		Node{Id: 5, Kind: api.Pos, Items: 1, Left: true}, Node{Id: 6, Kind: api.Ncc, Left: true, Right: true})
	p.addFact(2, reds(2))
	all := []Node{
		{Id: 2, Kind: api.Pos, Items: 1, Above: 1, Own: 1, Left: true, Right: true}, {Id: 3, Kind: api.Pos, Items: 1, Above: 1, Own: 1, Left: true, Right: true},
		{Id: 4, Kind: api.Neg, Items: 1, Above: 1, Own: 1, Left: true, Right: true}, {Id: 5, Kind: api.Pos, Items: 1, Above: 1, Left: true, Right: true},
		{Id: 6, Kind: api.Ncc, Above: 1, Own: 1, Left: true, Right: true}}
	p.wantAll(all...)
	p.removeFact(2)
	p.wantAll(
		Node{Id: 2, Kind: api.Pos, Items: 1, Above: 1, Own: 1, Left: true, Right: true}, Node{Id: 3, Kind: api.Pos, Above: 1, Right: true}, Node{Id: 4, Kind: api.Neg, Left: true},
		Node{Id: 5, Kind: api.Pos, Items: 1, Left: true}, Node{Id: 6, Kind: api.Ncc, Left: true, Right: true})
	p.addFact(2, reds(2))
	p.wantAll(all...)
	p.addFact(3, reds(1))
	p.addFact(4, reds(1))
	p.wantAll(
		Node{Id: 2, Kind: api.Pos, Items: 1, Above: 1, Own: 1, Left: true, Right: true}, Node{Id: 3, Kind: api.Pos, Items: 3, Above: 1, Own: 1, Left: true, Right: true},
		Node{Id: 4, Kind: api.Neg, Items: 3, Above: 1, Left: true, Right: true}, Node{Id: 5, Kind: api.Pos, Items: 1, Left: true}, Node{Id: 6, Kind: api.Ncc, Left: true, Right: true})
	p.clear()
}

// P19.2: a Pos node that is made late is linked by Start; one that stays is linked by what went last.
func TestLinksLate(t *testing.T) {
	p := newPair(t)
	p.addFact(1, lies(1, 2))
	p.addFact(2, reds(9))
	p.addRule("a", is(onKey), is(redKey))
	p.addRule("b", is(redKey), is(api.Triple{0, 9, 0}), is(redKey))
	p.wantAll(
		Node{Id: 2, Kind: api.Pos, Items: 1, Above: 1, Own: 1, Left: true, Right: true}, Node{Id: 3, Kind: api.Pos, Items: 1, Above: 1, Own: 1, Left: true, Right: true},
		Node{Id: 4, Kind: api.Pos, Items: 1, Above: 1, Own: 1, Left: true, Right: true}, Node{Id: 5, Kind: api.Pos, Above: 1, Right: true}, Node{Id: 6, Kind: api.Pos, Items: 1, Left: true})
	p.removeFact(1)
	p.wantAll(
		Node{Id: 2, Kind: api.Pos, Above: 1, Right: true}, Node{Id: 3, Kind: api.Pos, Items: 1, Left: true},
		Node{Id: 4, Kind: api.Pos, Items: 1, Above: 1, Own: 1, Left: true, Right: true}, Node{Id: 5, Kind: api.Pos, Above: 1, Right: true}, Node{Id: 6, Kind: api.Pos, Items: 1, Left: true})
	p.removeFact(2)
	p.look()
	p.clear()
}

// P19.2: what comes and goes within one call isn't there: a fact that brings tokens above a node and holds them up at once leaves its link as it was.
func TestLinksWithin(t *testing.T) {
	p := newPair(t)
	p.addRule("r", no(redKey, of(2, -1, 0)), is(redKey), is(onKey))
	p.wantAll(Node{Id: 2, Kind: api.Neg, Above: 1, Own: 1, Left: true, Right: true}, Node{Id: 3, Kind: api.Pos, Above: 1, Right: true}, Node{Id: 4, Kind: api.Pos, Left: true})
	p.addFact(1, reds(1))
	if x := p.with.All()[2]; x != (Node{Id: 4, Kind: api.Pos, Left: true}) {
		t.Error(x)
	}
	p.look()
	p.clear()
}

// P19.3: rows of calls in which unlinking saves calls to the left, to the right, and both; and one in which there is nothing to be saved.
func TestCalls(t *testing.T) {
	rule := steps(is(onKey), is(redKey, of(0, 0, 2)), no(redKey, of(0, 0, 0)))
	calls := func(facts ...api.Triple) (lessLeft, lessRight int) {
		p := newPair(t)
		p.addRule("r", rule...)
		a, b := p.with.Calls()
		c, d := p.without.Calls()
		for i, x := range facts {
			p.addFact(i+1, x)
			p.look()
		}
		e, f := p.with.Calls()
		g, h := p.without.Calls()
		p.clear()
		return g - c - (e - a), h - d - (f - b)
	}
	if left, right := calls(reds(2), reds(3), reds(4)); left != 0 || right < 3 {
		t.Error("red things alone, at nodes with nothing above them:", left, right)
	}
	if left, right := calls(lies(1, 2), lies(2, 3), lies(3, 4)); left < 3 || right != 0 {
		t.Error("things on each other alone, at a node with nothing beside it:", left, right)
	}
	if left, right := calls(lies(1, 2), lies(2, 3), reds(2), reds(9)); left < 2 || right != 0 {
		t.Error("both, the red things late:", left, right)
	}
	if left, right := calls(api.Triple{1, 1, 1}); left != 0 || right != 0 {
		t.Error("a fact beside no node:", left, right)
	}
	p := newPair(t)
	p.addRule("a", rule...)
	p.addRule("b", is(redKey), is(api.Triple{0, 9, 0}), is(redKey))
	for i := range 20 {
		p.addFact(1+2*i, lies(1+i, 2+i))
		p.addFact(2+2*i, reds(100))
		p.look()
	}
	a, b := p.with.Calls()
	c, d := p.without.Calls()
	if a >= c || b >= d {
		t.Errorf("%d and %d calls with unlinking, %d and %d without", a, b, c, d)
	}
	for _, n := range p.nets() {
		a, b := n.Calls()
		n.AddFact(api.Fact{Id: 1, T: reds(1)})
		n.AddFact(api.Fact{Id: 999, T: api.Triple{1, 1, 1}})
		n.RemoveFact(999)
		n.RemoveFact(999)
		n.AddRule("a", rule)
		n.Matches("a")
		n.At(rule)
		n.All()
		if c, d := n.Calls(); c != a || d != b {
			t.Error("calls where nobody is to be asked:", c-a, d-b)
		}
	}
}

// P19.3: with unlinking no node is asked from a side on which it isn't linked.
func TestNotAsked(t *testing.T) {
	n := New(true)
	n.AddRule("r", steps(is(onKey), is(redKey), no(redKey, of(0, 0, 0)), is(redKey)))
	was, right := n.Calls()
	for i := range 5 {
		n.AddFact(api.Fact{Id: 1 + i, T: reds(i + 1)})
	}
	if a, b := n.Calls(); a != was || b != right {
		t.Error("nothing above:", a-was, b-right)
	}
	for i := range 5 {
		n.RemoveFact(1 + i)
	}
	for i := range 5 {
		n.AddFact(api.Fact{Id: 1 + i, T: lies(i+1, 9)})
	}
	// The first node is asked by each fact, and no other one by a token.
	if a, b := n.Calls(); a != was || b != right+5 {
		t.Error("nothing beside:", a-was, b-right)
	}
}

// pool is rules of each kind of step, alone and in each other.
func pool() [][]api.Step {
	return [][]api.Step{
		steps(is(onKey), below()),
		steps(is(onKey), free()),
		steps(is(onKey), free(), is(redKey)),
		steps(is(onKey), not(below(), is(redKey, of(0, 1, 2))), is(redKey)),
		steps(is(onKey), not(below(), no(redKey, of(0, 1, 0))), is(redKey, of(0, 0, 0))),
		steps(no(redKey), is(onKey), is(onKey, of(2, -1, 0))),
		steps(not(is(redKey), not(is(onKey, of(0, 0, 0)), no(onKey, of(0, 0, 0), of(2, 1, 0)))), is(api.Triple{})),
		steps(is(api.Triple{}), not(no(redKey, of(0, 0, 0))), is(redKey), free()),
		steps(is(redKey), not(not(is(onKey, of(0, 0, 0)))), is(onKey)),
	}
}

// P19.1, P19.2, P19.3: all rows of five calls that let one of three facts or of two rules come or go, over pairs of rules.
func TestAllRows(t *testing.T) {
	facts := []api.Triple{lies(1, 2), lies(2, 2), reds(2)}
	all := pool()
	const things, long = 5, 5
	for _, two := range [][2]int{{0, 1}, {2, 3}, {4, 5}, {6, 7}, {8, 3}} {
		for row := range things * things * things * things * things {
			p := newPair(t)
			there := [things]bool{}
			for left := row; len(p.row) < long; left /= things {
				k := left % things
				switch {
				case k < 3 && !there[k]:
					p.addFact(k+1, facts[k])
				case k < 3:
					p.removeFact(k + 1)
				case !there[k]:
					p.addRule(string(rune('a'+k)), all[two[k-3]]...)
				default:
					p.removeRule(string(rune('a' + k)))
				}
				there[k] = !there[k]
				p.look()
			}
		}
	}
}

// P19.1: all rows of four calls of each kind, good and bad ones.
func TestAllCalls(t *testing.T) {
	l, other := steps(is(onKey), free()), steps(is(onKey), not(below(), is(onKey)))
	calls := []func(p *pair){
		func(p *pair) { p.addFact(1, lies(1, 2)) }, func(p *pair) { p.addFact(2, lies(2, 1)) }, func(p *pair) { p.addFact(2, lies(2, 3)) },
		func(p *pair) { p.removeFact(1) }, func(p *pair) { p.removeFact(2) },
		func(p *pair) { p.addRule("a", l...) }, func(p *pair) { p.addRule("b", l...) }, func(p *pair) { p.addRule("a", other...) },
		func(p *pair) { p.removeRule("a") }, func(p *pair) { p.removeRule("b") }, func(p *pair) { p.addRule("b") }, func(p *pair) { p.addFact(0, lies(1, 2)) },
	}
	n := len(calls)
	for row := range n * n * n * n {
		p := newPair(t)
		for left := row; len(p.row) < 4; left /= n {
			calls[left%n](p)
			p.look()
		}
	}
}

// countPos is how many Pos there are among steps.
func countPos(l []api.Step) int {
	n := 0
	for _, s := range l {
		if s.Kind == api.Pos {
			n++
		}
	}
	return n
}

// anySteps is up to so many right steps by chance, behind so many Pos, Nccs among them as deep as may be.
func anySteps(r *rand.Rand, least, most, ahead, deep int) []api.Step {
	var l []api.Step
	for range least + r.Intn(most-least+1) {
		if deep > 1 && r.Intn(4) == 0 {
			l = append(l, not(anySteps(r, 1, 2, ahead+countPos(l), deep-1)...))
			continue
		}
		s := api.Step{Kind: 1 + r.Intn(2)}
		// A Neg asks for more than a Pos, or nearly all would be held up.
		seldom := 9 - 4*s.Kind
		for f := range 3 {
			if n := ahead + countPos(l); n > 0 && r.Intn(seldom) == 0 {
				s.Tests = append(s.Tests, of(f, r.Intn(n), r.Intn(3)))
			} else if r.Intn(seldom) == 0 {
				s.Key[f] = 1 + r.Intn(2)
			} else if f > 0 && r.Intn(seldom) == 0 {
				s.Tests = append(s.Tests, of(f, -1, r.Intn(f)))
			}
		}
		l = append(l, s)
	}
	return l
}

// grown is a list that begins as another one does, by chance.
func grown(r *rand.Rand, lists [][]api.Step) []api.Step {
	var l []api.Step
	if len(lists) > 0 && r.Intn(3) > 0 {
		l = lists[r.Intn(len(lists))]
		l = slices.Clone(l[:r.Intn(len(l)+1)])
	}
	for range 20 {
		more := append(slices.Clone(l), anySteps(r, 1, 3, countPos(l), 3)...)
		if r.Intn(4) == 0 && len(l) > 1 {
			// What stands in one rule stands in an Ncc of the other one.
			more = append(slices.Clone(l[:1]), not(l[1:]...))
		}
		right := func(s api.Step) bool { return !comp.Right(s) }
		if countPos(more) <= 4 && len(more) <= 6 && len(comp.Chains(more)) <= api.MaxConds && !slices.ContainsFunc(more, right) {
			return more
		}
	}
	return steps(is(onKey))
}

// P19.1, P19.2, P19.3: calls by chance over rules by chance, held against the model behind each of them.
func TestRandom(t *testing.T) {
	tokens, results := 0, 0
	for seed := range int64(150) {
		r := rand.New(rand.NewSource(seed))
		p := newPair(t)
		var lists [][]api.Step
		for range 4 {
			lists = append(lists, grown(r, lists))
		}
		most := 5
		for range 60 {
			id, name := r.Intn(most+1), r.Intn(len(lists))
			switch k := r.Intn(12); {
			case k < 6 && len(p.m.facts) < most:
				p.addFact(id, api.Triple{1 + r.Intn(2), 1 + r.Intn(2), 1 + r.Intn(2)})
			case k < 9:
				p.removeFact(id)
			case k < 11:
				p.addRule(fmt.Sprint(name), lists[name]...)
			default:
				p.removeRule(fmt.Sprint(name))
			}
			p.look()
			tokens, results = tokens+p.with.Tokens(), results+p.with.Results()
			if c := lists[r.Intn(len(lists))]; len(p.m.rules) == 0 {
				p.wantNowhere(c[:1]...)
			}
		}
		p.clear()
	}
	if tokens < 40_000 || results < 6_000 {
		t.Errorf("only %d tokens and %d results", tokens, results)
	}
}

// P19.1: as many facts as there may be, and a rule as long as it may be.
func TestMany(t *testing.T) {
	for _, unlink := range []bool{true, false} {
		n := New(unlink)
		n.AddRule("pair", steps(is(onKey), below()))
		n.AddRule("free", steps(is(onKey), free()))
		n.AddRule("ncc", steps(is(onKey), not(below(), is(onKey, of(0, 1, 2)))))
		row := slices.Repeat(steps(is(onKey, of(0, 0, 2))), 16)
		row[0] = is(api.Triple{1, on, 0})
		for i := 1; i < 16; i++ {
			row[i] = is(onKey, of(0, i-1, 2))
		}
		n.AddRule("row", row)
		for i := range api.MaxFacts {
			n.AddFact(api.Fact{Id: i + 1, T: lies(i+1, i+2)})
		}
		count := func(name string, want int) {
			t.Helper()
			if l, e := n.Matches(name); len(l) != want || e != api.OK {
				t.Error(name, len(l), e)
			}
		}
		count("pair", api.MaxFacts-1)
		count("free", 1)
		count("ncc", 2)
		count("row", 1)
		n.RemoveFact(512)
		count("pair", api.MaxFacts-3)
		count("free", 2)
		count("ncc", 4)
		n.RemoveFact(16)
		count("row", 0)
		for i := range api.MaxFacts {
			n.RemoveFact(i + 1)
		}
		if n.Tokens() != 1 || n.Results() != 0 || n.Memories() != 2 {
			t.Error(n.Tokens(), n.Results(), n.Memories())
		}
	}
}

// P19.1: of steps that aren't right, of facts that aren't, and of a net that New didn't make nothing is promised but an end; what else there is stays as it is.
func TestLeftOut(t *testing.T) {
	self := steps(not(is(onKey)))
	self[0].Subs = self
	wrong := [][]api.Step{
		self, steps(api.Step{}), steps(is(onKey), not()), steps(is(api.Triple{-1, 0, 0})), slices.Repeat(steps(is(onKey)), 17),
		slices.Repeat(self, 1<<16), steps(is(onKey, of(5, 0, 0))), steps(not(not(not(not(is(onKey)))))),
	}
	p := newPair(t)
	p.addRule("r", is(onKey), free())
	p.addFact(1, lies(1, 2))
	for i, l := range wrong {
		for _, n := range p.nets() {
			n.AddRule(fmt.Sprint("wrong", i), l)
			n.At(l)
			n.RemoveRule(fmt.Sprint("wrong", i))
		}
		p.wantMatches("r", []int{1})
	}
	p.addRule("far", is(onKey), is(onKey, of(0, 3, 0)), no(onKey, of(1, 15, 2)))
	p.look()
	for i, a := range []api.Triple{{}, {-1, on, -1}, {math.MaxInt, on, math.MinInt}, {5000, 5000, 5000}} {
		p.addFact(10+i, a)
		p.look()
	}
	p.clear()
	for _, n := range []*Net{{}, {}} {
		n.RemoveFact(1)
		n.RemoveRule("r")
		n.Matches("r")
		n.At(steps(is(onKey)))
		n.At(nil)
		n.Nodes()
		n.Tokens()
		n.Memories()
		n.Results()
		n.Rules()
		n.All()
		n.Calls()
		n.AddRule("r", steps(is(onKey), free()))
		n.AddFact(api.Fact{Id: 1, T: lies(1, 2)})
		n.AddRule("s", steps(is(onKey), not(below())))
		n.All()
		n.RemoveFact(1)
		n.RemoveRule("r")
	}
}
