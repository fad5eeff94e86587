package net

import (
	"slices"

	"retiary/api"
	"retiary/link"
	"retiary/test"
)

// makeNode makes a node that is in the trie already. What stands above it, and at its inner node, has come for it.
func (n *Net) makeNode(id int) {
	s, _ := n.trie.Step(id)
	x := &node{step: s, parent: n.trie.Parent(id)}
	n.nodes[id] = x
	w := n.wave.of(id)
	w.tokens = n.tokens.At(x.parent)
	if s.Kind == api.Ncc {
		w.inner = n.tokens.At(n.trie.Inner(id))
	} else {
		n.want(s.Key, id)
	}
	x.items, x.above = n.numbers(x)
	x.link = link.Start(x.items, x.above)
}

// takeNode lets a node be out that isn't in the trie any more.
func (n *Net) takeNode(id int) {
	x := n.nodes[id]
	for _, token := range n.tokens.At(id) {
		n.out(token)
	}
	b := n.blocksOf(x)
	for _, token := range n.tokens.At(x.parent) {
		b.Close(owner{id, token})
	}
	if x.step.Kind != api.Ncc {
		n.drop(x.step.Key, id)
	}
	delete(n.nodes, id)
}

// want lets a node be beside the memory of a key.
func (n *Net) want(k api.Triple, id int) {
	m := n.memories[k]
	if n.store.Want(k, n.allFacts()) == 1 {
		m.items = len(n.store.Items(k))
	}
	m.nodes = append(m.nodes, id)
	n.memories[k] = m
}

// drop lets a node not be beside the memory of a key any more.
func (n *Net) drop(k api.Triple, id int) {
	if wanted, _ := n.store.Drop(k); wanted == 0 {
		delete(n.memories, k)
		return
	}
	m := n.memories[k]
	m.nodes = slices.DeleteFunc(m.nodes, func(beside int) bool { return beside == id })
	n.memories[k] = m
}

// allFacts is all facts, in whatever order: a memory has none.
func (n *Net) allFacts() []api.Fact {
	var facts []api.Fact
	for id, t := range n.facts {
		facts = append(facts, api.Fact{Id: id, T: t})
	}
	return facts
}

// numbers is how many facts are beside a node, and how many tokens above it.
func (n *Net) numbers(x *node) (items, above int) {
	if x.step.Kind != api.Ncc {
		items = n.memories[x.step.Key].items
	}
	return items, n.nodes[x.parent].own
}

// relink lets a node's link go on to what is beside it and above it now.
func (n *Net) relink(x *node) {
	items, above := n.numbers(x)
	switch {
	case !n.unlink || x.step.Kind == api.Ncc:
		x.link = link.Link{Left: true, Right: true}
	case x.step.Kind == api.Neg:
		// Without facts beside it, it has something to do for a new token: it lets it through.
		x.link = link.Link{Left: true, Right: above > 0}
	default:
		x.link = link.Items(x.link, x.items, items, x.above)
		x.link = link.Above(x.link, x.above, above, items)
	}
	x.items, x.above = items, above
}

// run gives all nodes that wait their turns.
func (n *Net) run() {
	for {
		id, w, ok := n.wave.next()
		if !ok {
			return
		}
		x := n.nodes[id]
		n.relink(x)
		n.ask(x, w)
		if x.step.Kind == api.Pos {
			n.eachMeeting(x, w, func(token, fact int) { n.put(token, id, fact) })
		} else {
			n.hold(id, x, w)
		}
	}
}

// ask asks a node about all that came where it is linked. It forgets the rest: there is nothing on the other side of that.
func (n *Net) ask(x *node, w *work) {
	if !x.link.Left {
		w.tokens = nil
	}
	if !x.link.Right {
		w.facts = nil
	}
	n.left += len(w.tokens)
	n.right += len(w.facts)
}

// eachMeeting hands on each token above a node and fact beside it that meet, if one of them came.
func (n *Net) eachMeeting(x *node, w *work, hand func(token, fact int)) {
	if len(w.tokens) > 0 {
		n.eachPair(x.step, w.tokens, n.factsOf(n.store.Items(x.step.Key)), hand)
	}
	if len(w.facts) > 0 {
		// The memory has the facts that came, so the tokens that came have met them.
		old := slices.DeleteFunc(n.tokens.At(x.parent), func(token int) bool {
			_, came := slices.BinarySearch(w.tokens, token)
			return came
		})
		n.eachPair(x.step, old, w.facts, hand)
	}
}

// eachPair hands on each token and fact that meet at a step.
func (n *Net) eachPair(s api.Step, tokens []int, facts []api.Fact, hand func(token, fact int)) {
	for _, token := range tokens {
		for _, fact := range test.Which(s, n.back(token), facts) {
			hand(token, fact)
		}
	}
}

// hold holds up tokens above a Neg or an Ncc node, or lets them through, by what came for it.
func (n *Net) hold(id int, x *node, w *work) {
	b := n.blocksOf(x)
	for _, token := range w.tokens {
		b.Open(owner{id, token})
	}
	changed := slices.Concat(w.tokens, w.freed)
	stop := func(token, by int) {
		if first, _ := b.Block(owner{id, token}, by); first {
			changed = append(changed, token)
		}
	}
	if x.step.Kind == api.Neg {
		n.eachMeeting(x, w, stop)
	}
	for _, inner := range w.inner {
		token, _ := n.tokens.Up(inner, x.parent)
		stop(token, inner)
	}
	for _, token := range changed {
		n.settle(b, owner{id, token})
	}
}

// settle lets a token stand below an owner if nothing holds that up, and none if something does.
func (n *Net) settle(b *blocks, o owner) {
	// What had lost what held it up may be gone itself since then.
	if !b.Is(o) {
		return
	}
	if b.Count(o) == 0 {
		// It is new, or was held up till now: nothing stands there yet.
		n.put(o.token, o.node, noFact)
	} else if token := n.standing(o); token != noToken {
		n.out(token)
	}
}

// standing is the token that stands below an owner, if there is one.
func (n *Net) standing(o owner) int {
	for _, token := range n.tokens.Kids(o.token) {
		if at, _ := n.tokens.Place(token); at == o.node {
			return token
		}
	}
	return noToken
}

// blocksOf is who is held up where a node is.
func (n *Net) blocksOf(x *node) *blocks {
	if x.step.Kind == api.Neg {
		return &n.negs
	}
	return &n.nccs
}

// free frees an owner of what held it up. If that was the last one, its node is to let it through.
func (n *Net) free(b *blocks, o owner, by int) {
	if last, _ := b.Free(o, by); last {
		w := n.wave.of(o.node)
		w.freed = append(w.freed, o.token)
	}
}

// put lets a token stand at a node, and come for those that hang on that one.
func (n *Net) put(parent, at, fact int) {
	token, _ := n.tokens.Add(parent, at, fact)
	n.nodes[at].own++
	for _, id := range n.trie.Kids(at) {
		w := n.wave.of(id)
		w.tokens = append(w.tokens, token)
	}
	for _, id := range n.trie.Outer(at) {
		w := n.wave.of(id)
		w.inner = append(w.inner, token)
	}
}

// out takes a token out, behind all below it: as long as they are told, they are asked what stands above them.
func (n *Net) out(token int) {
	for _, below := range n.tokens.Kids(token) {
		n.out(below)
	}
	at, _ := n.tokens.Place(token)
	n.nodes[at].own--
	for _, id := range n.trie.Kids(at) {
		n.wave.of(id)
		n.blocksOf(n.nodes[id]).Close(owner{id, token})
	}
	for _, id := range n.trie.Outer(at) {
		up, _ := n.tokens.Up(token, n.nodes[id].parent)
		n.free(&n.nccs, owner{id, up}, token)
	}
	n.tokens.Delete(token)
}
