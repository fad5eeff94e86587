package net

import (
	"fmt"
	"maps"
	"slices"
	"testing"

	"retiary/api"
	"retiary/comp"
	"retiary/key"
	"retiary/link"
	"retiary/plain"
	"retiary/trie"
)

// copied is steps that share no memory with those that are handed in.
func copied(l []api.Step) []api.Step {
	var all []api.Step
	for _, s := range l {
		s.Tests, s.Subs = slices.Clone(s.Tests), copied(s.Subs)
		all = append(all, s)
	}
	return all
}

// same tells whether two lists of steps are alike.
func same(a, b []api.Step) bool { return slices.EqualFunc(a, b, comp.Same) }

// model is the chapter's words, plainly: what there is, and all else reckoned anew by layer 14. Only by which numbers the nodes go is asked of a trie, and how the links went on is kept.
type model struct {
	facts map[int]api.Triple
	rules map[string][]api.Step
	trie  *trie.Trie
	links map[int]Node
}

func newModel() *model {
	return &model{map[int]api.Triple{}, map[string][]api.Step{}, trie.New(), map[int]Node{}}
}

// list is all facts, by ids, rising: so layer 14 tells matches by ids, too.
func (m *model) list() []api.Fact {
	var facts []api.Fact
	for _, id := range slices.Sorted(maps.Keys(m.facts)) {
		facts = append(facts, api.Fact{Id: id, T: m.facts[id]})
	}
	return facts
}

func (m *model) addFact(f api.Fact) api.Errno {
	if _, ok := m.facts[f.Id]; ok || f.Id < 1 {
		return api.ErrArg
	}
	m.facts[f.Id] = f.T
	return api.OK
}

func (m *model) removeFact(id int) api.Errno {
	if _, ok := m.facts[id]; !ok {
		return api.ErrFact
	}
	delete(m.facts, id)
	return api.OK
}

func (m *model) addRule(name string, l []api.Step) api.Errno {
	if _, ok := m.rules[name]; ok {
		return api.ErrTwice
	}
	if len(l) == 0 {
		return api.ErrEmpty
	}
	m.rules[name] = copied(l)
	m.trie.Add(l)
	return api.OK
}

func (m *model) removeRule(name string) api.Errno {
	l, ok := m.rules[name]
	if !ok {
		return api.ErrRule
	}
	delete(m.rules, name)
	m.trie.Remove(l)
	return api.OK
}

// chains is all chains of all rules, each once.
func (m *model) chains() [][]api.Step {
	var all [][]api.Step
	for _, name := range slices.Sorted(maps.Keys(m.rules)) {
		for _, c := range comp.Chains(m.rules[name]) {
			if !slices.ContainsFunc(all, func(x []api.Step) bool { return same(x, c) }) {
				all = append(all, c)
			}
		}
	}
	return all
}

// items is how many facts have a step's key.
func (m *model) items(s api.Step) int {
	n := 0
	for _, t := range m.facts {
		if s.Kind != api.Ncc && key.Has(t, s.Key) {
			n++
		}
	}
	return n
}

// at is a chain that is a node's: its number, its partial matches, and how many its parent's chain has.
type at struct {
	chain     []api.Step
	id, above int
	matches   [][]int
}

// sums is all that is to be told of a model.
type sums struct {
	ats                              []at
	nodes, tokens, memories, results int
}

func (m *model) sums() sums {
	facts, chains := m.list(), m.chains()
	s := sums{nodes: 1 + len(chains) + len(m.rules), tokens: 1}
	keys := map[api.Triple]bool{}
	for _, c := range chains {
		ahead, last := c[:len(c)-1], c[len(c)-1]
		x := at{c, m.trie.Find(c), len(plain.Partial(facts, ahead)), plain.Partial(facts, c)}
		s.ats = append(s.ats, x)
		s.tokens += len(x.matches)
		if last.Kind == api.Neg {
			s.results += plain.Blockers(facts, ahead, last)
		}
		if last.Kind != api.Ncc {
			keys[last.Key] = true
		}
	}
	s.memories = len(keys)
	slices.SortFunc(s.ats, func(a, b at) int { return a.id - b.id })
	return s
}

// wantLink wants that a node with unlinking is linked as the chapter says, and keeps how.
func (p *pair) wantLink(x Node) {
	p.t.Helper()
	m := p.m
	got, may := link.Link{Left: x.Left, Right: x.Right}, []link.Link{}
	was, old := m.links[x.Id]
	switch l := (link.Link{Left: was.Left, Right: was.Right}); {
	case x.Kind == api.Ncc:
		may = append(may, link.Link{Left: true, Right: true})
	case x.Kind == api.Neg:
		may = append(may, link.Link{Left: true, Right: x.Above > 0})
	case !old:
		may = append(may, link.Start(x.Items, x.Above))
	default:
		// In whatever order both change.
		may = append(may,
			link.Above(link.Items(l, was.Items, x.Items, was.Above), was.Above, x.Above, x.Items),
			link.Items(link.Above(l, was.Above, x.Above, was.Items), was.Items, x.Items, x.Above))
	}
	if !slices.Contains(may, got) || !link.Fits(got, x.Items, x.Above) && x.Kind == api.Pos {
		p.t.Fatalf("%v: the link of %+v is none of %+v; it was %+v", p.row, x, may, was)
	}
	m.links[x.Id] = x
}

// added is a rule, as it is told what was done.
type added struct {
	name string
	l    []api.Step
}

// pair is a net with unlinking, one without, and the model, to which the same is done.
type pair struct {
	t             *testing.T
	with, without *Net
	m             *model
	row           []any // what was done
}

func newPair(t *testing.T) *pair {
	return &pair{t: t, with: New(true), without: New(false), m: newModel()}
}

// nets is both nets.
func (p *pair) nets() []*Net { return []*Net{p.with, p.without} }

// done notes a call, and wants that both nets answered as the model does.
func (p *pair) done(what any, with, without, want api.Errno) {
	p.t.Helper()
	p.row = append(p.row, what)
	if with != want || without != want {
		p.t.Fatalf("%v: errors %d and %d, want %d", p.row, with, without, want)
	}
}

func (p *pair) addFact(id int, a api.Triple) {
	p.t.Helper()
	f := api.Fact{Id: id, T: a}
	p.done(f, p.with.AddFact(f), p.without.AddFact(f), p.m.addFact(f))
}

func (p *pair) removeFact(id int) {
	p.t.Helper()
	p.done(id, p.with.RemoveFact(id), p.without.RemoveFact(id), p.m.removeFact(id))
}

func (p *pair) addRule(name string, l ...api.Step) {
	p.t.Helper()
	p.done(added{name, l}, p.with.AddRule(name, l), p.without.AddRule(name, l), p.m.addRule(name, l))
}

func (p *pair) removeRule(name string) {
	p.t.Helper()
	p.done(name, p.with.RemoveRule(name), p.without.RemoveRule(name), p.m.removeRule(name))
	maps.DeleteFunc(p.m.links, func(id int, _ Node) bool { _, ok := p.m.trie.Step(id); return !ok })
}

// text is lists of ids, as they are told.
func text(l [][]int) string { return fmt.Sprint(l) }

// look wants that both nets are all that the model is.
func (p *pair) look() {
	p.t.Helper()
	s := p.m.sums()
	for _, n := range p.nets() {
		p.wantSums(n, s)
		p.wantRules(n)
		p.wantNodes(n, s)
	}
	a, b := p.with.Calls()
	c, d := p.without.Calls()
	if a > c || b > d || a < 0 || b < 0 {
		p.t.Fatalf("%v: %d and %d calls with unlinking, %d and %d without", p.row, a, b, c, d)
	}
}

func (p *pair) wantSums(n *Net, s sums) {
	p.t.Helper()
	if n.Nodes() != s.nodes || n.Tokens() != s.tokens || n.Memories() != s.memories || n.Results() != s.results {
		p.t.Fatalf("%v: %d nodes, %d tokens, %d memories, %d results, want %d, %d, %d, %d", p.row,
			n.Nodes(), n.Tokens(), n.Memories(), n.Results(), s.nodes, s.tokens, s.memories, s.results)
	}
}

func (p *pair) wantRules(n *Net) {
	p.t.Helper()
	if l, want := n.Rules(), slices.Sorted(maps.Keys(p.m.rules)); !slices.Equal(l, want) {
		p.t.Fatalf("%v: Rules are %q, want %q", p.row, l, want)
	}
	for name, l := range p.m.rules {
		got, e := n.Matches(name)
		if want := plain.Partial(p.m.list(), l); text(got) != text(want) || e != api.OK {
			p.t.Fatalf("%v: Matches(%q) are %v, error %d, want %v", p.row, name, got, e, want)
		}
	}
}

func (p *pair) wantNodes(n *Net, s sums) {
	p.t.Helper()
	all := n.All()
	if len(all) != len(s.ats) {
		p.t.Fatalf("%v: All are %+v, want %d of them", p.row, all, len(s.ats))
	}
	for i, x := range s.ats {
		got, last := all[i], x.chain[len(x.chain)-1]
		want := Node{x.id, last.Kind, p.m.items(last), x.above, len(x.matches), got.Left, got.Right}
		if got != want || n == p.without && !(got.Left && got.Right) {
			p.t.Fatalf("%v: a node is %+v, want %+v", p.row, got, want)
		}
		if n == p.with {
			p.wantLink(got)
		}
		if l := n.At(x.chain); text(l) != text(x.matches) {
			p.t.Fatalf("%v: At(%v) are %v, want %v", p.row, x.chain, l, x.matches)
		}
	}
}

// wantNowhere wants that a chain is no node's.
func (p *pair) wantNowhere(chain ...api.Step) {
	p.t.Helper()
	for _, n := range p.nets() {
		if l := n.At(chain); len(l) != 0 {
			p.t.Errorf("%v: At(%v) are %v", p.row, chain, l)
		}
	}
}

// wantMatches wants of both nets the matches that are written.
func (p *pair) wantMatches(name string, want ...[]int) {
	p.t.Helper()
	for _, n := range p.nets() {
		if l, e := n.Matches(name); text(l) != text(want) || e != api.OK {
			p.t.Fatalf("%v: Matches(%q) are %v, error %d, want %v", p.row, name, l, e, want)
		}
	}
	p.look()
}

// wantCounts wants of both nets the numbers that are written.
func (p *pair) wantCounts(nodes, tokens, memories, results int) {
	p.t.Helper()
	for _, n := range p.nets() {
		p.wantSums(n, sums{nodes: nodes, tokens: tokens, memories: memories, results: results})
	}
	p.look()
}

// wantAll wants of the net with unlinking the nodes that are written, and of the other one the same but for the links.
func (p *pair) wantAll(want ...Node) {
	p.t.Helper()
	p.look()
	if l := p.with.All(); !slices.Equal(l, want) {
		p.t.Fatalf("%v: All are\n%+v, want\n%+v", p.row, l, want)
	}
	linked := slices.Clone(want)
	for i := range linked {
		linked[i].Left, linked[i].Right = true, true
	}
	if l := p.without.All(); !slices.Equal(l, linked) {
		p.t.Fatalf("%v: All without unlinking are\n%+v, want\n%+v", p.row, l, linked)
	}
}

// wantEmpty wants that nothing is left but the top.
func (p *pair) wantEmpty() {
	p.t.Helper()
	p.wantCounts(1, 1, 0, 0)
	p.wantAll()
}

// clear takes all rules and facts out again, one by one, and wants that nothing is left.
func (p *pair) clear() {
	p.t.Helper()
	for _, id := range slices.Sorted(maps.Keys(p.m.facts)) {
		p.removeFact(id)
		p.look()
	}
	for _, name := range slices.Sorted(maps.Keys(p.m.rules)) {
		p.removeRule(name)
		p.look()
	}
	p.wantEmpty()
}
