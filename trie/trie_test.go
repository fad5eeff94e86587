package trie

import (
	"fmt"
	"math"
	"math/rand"
	"slices"
	"strings"
	"testing"

	"retiary/api"
	"retiary/comp"
)

// p and n are a Pos and a Neg step that is known by its number; not is an Ncc of steps, and of a list of them.
func p(i int) api.Step              { return api.Step{Kind: api.Pos, Key: api.Triple{i, 0, 0}} }
func n(i int) api.Step              { return api.Step{Kind: api.Neg, Key: api.Triple{i, 0, 0}} }
func not(subs ...api.Step) api.Step { return api.Step{Kind: api.Ncc, Subs: subs} }
func of(l ...api.Step) []api.Step   { return l }

// tested is a Pos with tests, each told as its field, back and other.
func tested(tests ...[3]int) api.Step {
	s := p(7)
	for _, x := range tests {
		s.Tests = append(s.Tests, api.Test{Field: x[0], Back: x[1], Other: x[2]})
	}
	return s
}

// text is all that steps are, as a text: two lists are alike if their texts are.
func text(l []api.Step) string {
	var b strings.Builder
	for _, s := range l {
		fmt.Fprint(&b, " ", s.Kind, s.Key, s.Tests, "(", text(s.Subs), ")")
	}
	return b.String()
}

// size is how many steps there are in a list.
func size(l []api.Step) int {
	k := len(l)
	for _, s := range l {
		k += size(s.Subs)
	}
	return k
}

// copied is a list that shares nothing with another one.
func copied(l []api.Step) []api.Step {
	var c []api.Step
	for _, s := range l {
		s.Tests, s.Subs = slices.Clone(s.Tests), copied(s.Subs)
		c = append(c, s)
	}
	return c
}

// behind is a list with some steps behind it, sharing no room with it.
func behind(l []api.Step, more ...api.Step) []api.Step { return slices.Concat(l, more) }

// chainsOf is the chains of steps behind what is ahead of them, by the words of layers 6 and 8.
func chainsOf(ahead, l []api.Step) [][]api.Step {
	var all [][]api.Step
	for i, s := range l {
		before := behind(ahead, l[:i]...)
		if s.Kind == api.Ncc {
			all = append(all, chainsOf(before, s.Subs)...)
		}
		all = append(all, behind(before, s))
	}
	return all
}

// texts is the texts of chains.
func texts(l [][]api.Step) []string {
	var all []string
	for _, c := range l {
		all = append(all, text(c))
	}
	return all
}

// entry is a node of the model: its chain, too, as a text.
type entry struct {
	id    int
	chain []api.Step
	text  string
}

// added is a list that is there, as a text, with the texts of its chains.
type added struct {
	text   string
	chains []string
}

// model is the chapter's words, plainly: the lists that are there, the nodes by their numbers, rising, the top among them, and the last number that was given.
type model struct {
	lists []added
	row   []entry
	given int
}

func newModel() *model { return &model{row: []entry{{id: 1}}, given: 1} }

// find is the number of the node of a chain, 0 if there is none.
func (m *model) find(chain []api.Step) int {
	want := text(chain)
	for _, e := range m.row {
		if e.text == want {
			return e.id
		}
	}
	return 0
}

// get is the node of a number, if there is one.
func (m *model) get(id int) (entry, bool) {
	for _, e := range m.row {
		if e.id == id {
			return e, true
		}
	}
	return entry{}, false
}

func (m *model) add(l []api.Step) []int {
	chains := chainsOf(nil, copied(l))
	m.lists = append(m.lists, added{text(l), texts(chains)})
	var ids []int
	for _, c := range chains {
		if m.find(c) == 0 {
			m.given++
			m.row = append(m.row, entry{m.given, c, text(c)})
		}
		ids = append(ids, m.find(c))
	}
	return ids
}

func (m *model) remove(l []api.Step) ([]int, api.Errno) {
	at := slices.IndexFunc(m.lists, func(a added) bool { return a.text == text(l) })
	if at < 0 {
		return nil, api.ErrNone
	}
	m.lists = slices.Delete(m.lists, at, at+1)
	var out []int
	m.row = slices.DeleteFunc(m.row, func(e entry) bool {
		gone := e.id != 1 && m.uses(e) == 0
		if gone {
			out = append([]int{e.id}, out...)
		}
		return gone
	})
	return out, api.OK
}

// uses is how many lists have a node's chain.
func (m *model) uses(e entry) int {
	k := 0
	for _, l := range m.lists {
		if e.id == 1 || slices.Contains(l.chains, e.text) {
			k++
		}
	}
	return k
}

// last is the chain of a node but for its step, and that; false of the top.
func (e entry) last() ([]api.Step, api.Step, bool) {
	if len(e.chain) == 0 {
		return nil, api.Step{}, false
	}
	return e.chain[:len(e.chain)-1], e.chain[len(e.chain)-1], true
}

// parent is the number of a node's parent.
func (m *model) parent(e entry) int {
	if ahead, _, ok := e.last(); ok {
		return m.find(ahead)
	}
	return 0
}

// inner is the number of an Ncc node's inner node.
func (m *model) inner(e entry) int {
	if ahead, s, _ := e.last(); s.Kind == api.Ncc {
		return m.find(behind(ahead, s.Subs...))
	}
	return 0
}

// facts is what there is to be asked of one node.
type facts struct {
	parent, depth, uses, inner int
	step                       string
	ok                         bool
	kids, outer                []int
}

// wanted is what the model says of each of its nodes.
func (m *model) wanted() map[int]*facts {
	all := map[int]*facts{}
	for _, e := range m.row {
		_, s, ok := e.last()
		f := &facts{parent: m.parent(e), depth: len(e.chain), uses: m.uses(e), inner: m.inner(e), step: text(of(s)), ok: ok}
		all[e.id] = f
		if up := all[f.parent]; up != nil {
			up.kids = append(up.kids, e.id)
		}
		if in := all[f.inner]; in != nil {
			in.outer = append(in.outer, e.id)
		}
	}
	return all
}

// asked is what a trie says of one node.
func asked(x *Trie, id int) facts {
	s, ok := x.Step(id)
	return facts{x.Parent(id), x.Depth(id), x.Uses(id), x.Inner(id), text(of(s)), ok, x.Kids(id), x.Outer(id)}
}

// wantNode wants that a trie says that of one node.
func wantNode(t *testing.T, x *Trie, id int, want facts, what string) {
	t.Helper()
	if got := asked(x, id); fmt.Sprint(got) != fmt.Sprint(want) {
		t.Fatalf("%s: node %d (parent, depth, uses, inner, step, kids, outer):\n%+v, want\n%+v", what, id, got, want)
	}
}

// far is numbers that no node here ever has.
var far = []int{-1, -2, -3, math.MinInt, math.MinInt + 1, math.MinInt32, math.MaxInt, math.MaxInt - 1, 1 << 32, 1<<32 + 1, 1<<32 + 2, 1 << 62}

// nothing is what is said of no node.
var nothing = facts{step: text(of(api.Step{}))}

// wantAsked wants of all calls that ask for something what the model has: of each number that was given, 0, the next ones, and those that never are; and of chains.
func wantAsked(t *testing.T, x *Trie, m *model, chains [][]api.Step, what string) {
	t.Helper()
	wanted := m.wanted()
	if x.Len() != len(m.row) {
		t.Fatalf("%s: Len is %d, want %d", what, x.Len(), len(m.row))
	}
	var ids []int
	for _, e := range m.row {
		ids = append(ids, e.id)
		if got := x.Find(e.chain); got != e.id {
			t.Fatalf("%s: Find(%s) is %d, want %d", what, e.text, got, e.id)
		}
	}
	if got := x.All(); !slices.Equal(got, ids) {
		t.Fatalf("%s: All is %v, want %v", what, got, ids)
	}
	for id := 0; id <= m.given+3; id++ {
		if f := wanted[id]; f != nil {
			wantNode(t, x, id, *f, what)
		} else {
			wantNode(t, x, id, nothing, what)
		}
	}
	for _, id := range far {
		wantNode(t, x, id, nothing, what)
	}
	for _, c := range chains {
		if got, want := x.Find(c), m.find(c); got != want {
			t.Fatalf("%s: Find(%s) is %d, want %d", what, text(c), got, want)
		}
	}
}

// wantAdd and wantRemove do it to a trie and its model, and want that they answer alike.
func wantAdd(t *testing.T, x *Trie, m *model, l []api.Step) {
	t.Helper()
	got := x.Add(l)
	if want := m.add(l); !slices.Equal(got, want) {
		t.Fatalf("Add(%s) is %v, want %v", text(l), got, want)
	}
}

func wantRemove(t *testing.T, x *Trie, m *model, l []api.Step) {
	t.Helper()
	got, e := x.Remove(l)
	if want, we := m.remove(l); !slices.Equal(got, want) || e != we {
		t.Fatalf("Remove(%s) is %v, error %d, want %v, error %d", text(l), got, e, want, we)
	}
}

// grown is a trie to which lists were added, and its model.
func grown(t *testing.T, lists ...[]api.Step) (*Trie, *model) {
	t.Helper()
	x, m := New(), newModel()
	for _, l := range lists {
		wantAdd(t, x, m, l)
	}
	return x, m
}

// wantIds wants of a list that is told what is written.
func wantIds(t *testing.T, what string, got []int, want ...int) {
	t.Helper()
	if !slices.Equal(got, want) {
		t.Errorf("%s: %v, want %v", what, got, want)
	}
}

// wantOut wants that Remove of a list answers OK and tells what is written.
func wantOut(t *testing.T, x *Trie, l []api.Step, want ...int) {
	t.Helper()
	got, e := x.Remove(l)
	if e != api.OK {
		t.Errorf("Remove(%s): error %d", text(l), e)
	}
	wantIds(t, fmt.Sprintf("Remove(%s)", text(l)), got, want...)
}

// wantRefused wants that Remove of a list answers ErrNone, again and again, and changes nothing.
func wantRefused(t *testing.T, x *Trie, m *model, l []api.Step) {
	t.Helper()
	for range 2 {
		if got, e := x.Remove(l); len(got) != 0 || e != api.ErrNone {
			t.Errorf("Remove(%s): %v, error %d", text(l), got, e)
		}
		wantAsked(t, x, m, chainsOf(nil, l), "refused")
	}
}

// P16.1: what the chapter's example says.
func TestExample(t *testing.T) {
	x := New()
	wantIds(t, "A B", x.Add(of(p(1), p(2))), 2, 3)
	wantIds(t, "A C", x.Add(of(p(1), p(3))), 2, 4)
	wantOut(t, x, of(p(1), p(2)), 3)
}

// P16.1: a new trie has the top alone.
func TestNew(t *testing.T) {
	x := New()
	wantIds(t, "All", x.All(), 1)
	if x.Len() != 1 || x.Find(nil) != 1 || x.Find([]api.Step{}) != 1 {
		t.Error("Len, Find:", x.Len(), x.Find(nil), x.Find([]api.Step{}))
	}
	for _, id := range append(slices.Clone(far), 0, 1, 2, 3) {
		if s, ok := x.Step(id); text(of(s)) != text(of(api.Step{})) || ok {
			t.Error("Step of", id, s, ok)
		}
		if x.Parent(id) != 0 || x.Depth(id) != 0 || x.Uses(id) != 0 || x.Inner(id) != 0 || len(x.Kids(id)) != 0 || len(x.Outer(id)) != 0 {
			t.Error("node", id, x.Parent(id), x.Depth(id), x.Uses(id), x.Inner(id), x.Kids(id), x.Outer(id))
		}
	}
	wantAsked(t, x, newModel(), [][]api.Step{of(p(1)), of(n(1)), of(not(p(1))), of(p(1), p(1))}, "new")
}

// P16.1: the list without steps has no chains, but is one of the lists.
func TestListWithoutSteps(t *testing.T) {
	x, m := New(), newModel()
	wantRefused(t, x, m, nil)
	wantRefused(t, x, m, []api.Step{})
	wantAdd(t, x, m, nil)
	wantAdd(t, x, m, []api.Step{})
	wantAsked(t, x, m, nil, "twice")
	if x.Uses(1) != 2 || x.Len() != 1 {
		t.Error("twice:", x.Uses(1), x.Len())
	}
	wantAdd(t, x, m, of(p(1)))
	wantRemove(t, x, m, []api.Step{})
	wantAsked(t, x, m, nil, "one of them is out")
	wantRemove(t, x, m, nil)
	if x.Uses(1) != 1 || x.Len() != 2 {
		t.Error("the other one stays:", x.Uses(1), x.Len())
	}
	wantRefused(t, x, m, nil)
	wantRemove(t, x, m, of(p(1)))
	wantAsked(t, x, m, nil, "nothing is there")
	wantRefused(t, x, m, nil)
}

// P16.1: lists with one step and with several, one that is there already, a beginning of one, and what goes on behind it.
func TestAdd(t *testing.T) {
	x, m := New(), newModel()
	for i, c := range []struct {
		l    []api.Step
		want []int
	}{
		{of(p(1)), []int{2}},
		{of(n(1)), []int{3}},
		{of(p(1), p(2), n(3)), []int{2, 4, 5}},
		{of(p(1), p(2), n(3)), []int{2, 4, 5}},
		{of(p(1), p(2)), []int{2, 4}},
		{of(p(1), p(2), n(3), p(1), p(1)), []int{2, 4, 5, 6, 7}},
		{of(p(2), n(3)), []int{8, 9}},
		{nil, nil},
		{of(not(p(1))), []int{2, 10}},
		{of(p(2), p(2), p(2), p(2)), []int{8, 11, 12, 13}},
		{of(n(1), p(2)), []int{3, 14}},
	} {
		wantIds(t, fmt.Sprint("Add ", i), x.Add(c.l), c.want...)
		m.add(c.l)
		wantAsked(t, x, m, chainsOf(nil, c.l), fmt.Sprint("Add ", i))
	}
	if x.Uses(1) != 11 || x.Uses(2) != 6 || x.Uses(4) != 4 || x.Uses(5) != 3 || x.Uses(7) != 1 || x.Uses(10) != 1 || x.Depth(7) != 5 {
		t.Error("Uses, Depth:", x.Uses(1), x.Uses(2), x.Uses(4), x.Uses(5), x.Uses(7), x.Uses(10), x.Depth(7))
	}
}

// P16.1: lists of six that part at each place, and are there to the end of the shorter one.
func TestParting(t *testing.T) {
	base := of(p(1), n(2), not(p(3)), p(4), n(5), p(6))
	for at := range base {
		for _, other := range []api.Step{p(9), n(9), not(n(9)), not(p(3), p(9)), not(not(p(3)))} {
			l := slices.Clone(base)
			l[at] = other
			x, m := grown(t, base, l)
			wantAsked(t, x, m, chainsOf(nil, l), "both")
			wantAdd(t, x, m, l[:at+1])
			wantAdd(t, x, m, base[:at])
			wantRemove(t, x, m, base)
			wantAsked(t, x, m, chainsOf(nil, base), "the first one is out")
			wantAdd(t, x, m, base)
			wantRemove(t, x, m, l)
			wantRemove(t, x, m, l[:at+1])
			wantAsked(t, x, m, chainsOf(nil, l), "the second one is out")
		}
	}
}

// P16.1: an Ncc's inner chains are told ahead of its own, each behind what is ahead of it, one to three deep.
func TestNccs(t *testing.T) {
	for i, c := range []struct {
		l     []api.Step
		want  []int
		inner [][2]int
	}{
		{of(not(p(1))), []int{2, 3}, [][2]int{{3, 2}}},
		{of(not(n(1), p(2), p(3))), []int{2, 3, 4, 5}, [][2]int{{5, 4}}},
		{of(p(1), not(p(2)), p(3)), []int{2, 3, 4, 5}, [][2]int{{4, 3}}},
		{of(not(not(p(1)))), []int{2, 3, 4}, [][2]int{{3, 2}, {4, 3}}},
		{of(p(1), not(p(2), not(p(3), p(4)), p(5)), p(6)), []int{2, 3, 4, 5, 6, 7, 8, 9}, [][2]int{{6, 5}, {8, 7}}},
		{of(not(not(p(1), n(1)), not(n(1), p(1)))), []int{2, 3, 4, 5, 6, 7, 8}, [][2]int{{4, 3}, {7, 6}, {8, 7}}},
		{of(p(1), not(not(p(2)), p(3)), not(p(2), n(3)), n(4)), []int{2, 3, 4, 5, 6, 7, 8, 9, 10}, [][2]int{{4, 3}, {6, 5}, {9, 8}}},
	} {
		x, m := New(), newModel()
		wantIds(t, fmt.Sprint("Add ", i), x.Add(c.l), c.want...)
		m.add(c.l)
		wantAsked(t, x, m, nil, fmt.Sprint("Add ", i))
		inner := map[int]int{}
		for _, pair := range c.inner {
			inner[pair[0]] = pair[1]
			wantIds(t, fmt.Sprint("Outer of ", pair[1]), x.Outer(pair[1]), pair[0])
		}
		for _, id := range c.want {
			if x.Inner(id) != inner[id] {
				t.Errorf("Inner(%d) is %d, want %d", id, x.Inner(id), inner[id])
			}
		}
		slices.Reverse(c.want)
		wantOut(t, x, c.l, c.want...)
	}
}

// P16.1: what is written of an Ncc three deep: the parents, the depths and the steps.
func TestDeep(t *testing.T) {
	in := not(p(3), n(4))
	out := not(n(2), in)
	x := New()
	wantIds(t, "Add", x.Add(of(p(1), out, p(5))), 2, 3, 4, 5, 6, 7, 8)
	for id, want := range map[int]struct {
		parent, depth int
		step          api.Step
		kids          []int
	}{
		2: {1, 1, p(1), []int{3, 7}},
		3: {2, 2, n(2), []int{4, 6}},
		4: {3, 3, p(3), []int{5}},
		5: {4, 4, n(4), nil},
		6: {3, 3, in, nil},
		7: {2, 2, out, []int{8}},
		8: {7, 3, p(5), nil},
	} {
		s, ok := x.Step(id)
		if x.Parent(id) != want.parent || x.Depth(id) != want.depth || text(of(s)) != text(of(want.step)) || !ok {
			t.Errorf("node %d: parent %d, depth %d, step %s %v", id, x.Parent(id), x.Depth(id), text(of(s)), ok)
		}
		wantIds(t, fmt.Sprint("Kids of ", id), x.Kids(id), want.kids...)
	}
}

// P16.1: an Ncc whose inner chain another list has outside of an Ncc, ahead of it and behind it; and inner nodes with several outer ones.
func TestInnerOutside(t *testing.T) {
	inside, outside := of(p(1), not(p(2), n(3)), p(4)), of(p(1), p(2), n(3), p(4))
	x, m := grown(t, inside, outside)
	wantIds(t, "outside, behind it", x.Add(outside), 2, 3, 4, 7)
	m.add(outside)
	wantAsked(t, x, m, nil, "outside, behind it")
	if x.Inner(5) != 4 || x.Uses(4) != 3 || x.Uses(5) != 1 {
		t.Error("outside, behind it:", x.Inner(5), x.Uses(4), x.Uses(5))
	}
	wantRemove(t, x, m, inside)
	wantAsked(t, x, m, chainsOf(nil, inside), "the Ncc is out")
	wantIds(t, "Outer", x.Outer(4))

	y, k := grown(t, outside)
	wantIds(t, "outside, ahead of it", y.Add(inside), 2, 3, 4, 6, 7)
	k.add(inside)
	wantIds(t, "Outer", y.Outer(4), 6)
	wantRemove(t, y, k, outside)
	wantAsked(t, y, k, chainsOf(nil, outside), "outside it is out")

	// One chain that is the inner one of Nccs that begin at each of its places, added in another order than that.
	z, j := grown(t, of(p(1), n(2), not(p(3))), of(not(p(1), n(2), p(3))), of(p(1), not(n(2), p(3))))
	wantIds(t, "Outer", z.Outer(4), 5, 6, 7)
	wantAsked(t, z, j, nil, "three outer ones")
	wantRemove(t, z, j, of(not(p(1), n(2), p(3))))
	wantIds(t, "Outer", z.Outer(4), 5, 7)
	wantAdd(t, z, j, of(not(p(1), n(2), p(3))))
	wantIds(t, "Outer", z.Outer(4), 5, 7, 8)
	wantAsked(t, z, j, nil, "one is out and comes again")
}

// unlike is steps no two of which are alike, though they are so but for one thing.
func unlike() []api.Step {
	l := of(p(7), n(7), not(p(7)), not(n(7)), not(not(p(7))), not(p(7), p(7)), not(p(7), n(7)), not(n(7), p(7)), not(p(7), p(7), p(7)), not(not(p(7)), p(7)), not(p(7), not(p(7))), not(not(p(7), p(7))), not(p(8)))
	for _, k := range []api.Triple{{0, 0, 0}, {0, 7, 0}, {0, 0, 7}, {7, 7, 0}, {8, 0, 0}, {4096, 0, 0}, {7, 0, 4096}} {
		l = append(l, api.Step{Kind: api.Pos, Key: k}, api.Step{Kind: api.Neg, Key: k})
	}
	l = append(l,
		tested([3]int{0, 0, 0}), tested([3]int{0, 0, 1}), tested([3]int{0, 0, 2}), tested([3]int{0, 1, 0}), tested([3]int{0, 15, 2}),
		tested([3]int{1, 0, 0}), tested([3]int{2, 0, 0}), tested([3]int{1, -1, 0}), tested([3]int{2, -1, 0}), tested([3]int{2, -1, 1}),
		tested([3]int{0, 0, 0}, [3]int{1, 0, 0}), tested([3]int{0, 0, 0}, [3]int{2, 0, 0}), tested([3]int{1, 0, 0}, [3]int{2, 0, 0}), tested([3]int{1, -1, 0}, [3]int{2, -1, 0}),
		tested([3]int{0, 0, 0}, [3]int{1, 0, 0}, [3]int{2, 0, 0}), tested([3]int{0, 0, 0}, [3]int{1, 0, 0}, [3]int{2, 0, 1}), tested([3]int{0, 0, 0}, [3]int{1, 0, 0}, [3]int{2, 1, 0}))
	neg := tested([3]int{0, 0, 0})
	neg.Kind = api.Neg
	return append(l, neg, not(neg), not(tested([3]int{0, 0, 0})), not(tested([3]int{0, 0, 1})), not(p(7), tested([3]int{0, 0, 1})))
}

// P16.1, P16.2: steps that are like each other but for their kind, their key, one test or their Subs have nodes of their own, at the top and below a node.
func TestUnlike(t *testing.T) {
	all := unlike()
	for i, a := range all {
		if !comp.Right(a) {
			t.Fatal("no right step:", text(of(a)))
		}
		for _, b := range all[i+1:] {
			if text(of(a)) == text(of(b)) {
				t.Fatal("twice:", text(of(a)))
			}
		}
	}
	for _, ahead := range [][]api.Step{nil, of(p(7)), of(n(7), not(p(7)))} {
		x, m := New(), newModel()
		ids := map[int]bool{}
		for _, s := range all {
			wantAdd(t, x, m, behind(ahead, s))
			wantAdd(t, x, m, behind(ahead, s, p(7)))
			ids[x.Find(behind(ahead, s))] = true
		}
		if len(ids) != len(all) || ids[0] {
			t.Error("so many nodes:", len(ids), "of", len(all))
		}
		wantAsked(t, x, m, nil, "all of them")
		for i, s := range all {
			wantRemove(t, x, m, behind(ahead, s, p(7)))
			wantRemove(t, x, m, behind(ahead, s))
			if i%7 == 0 {
				wantAsked(t, x, m, chainsOf(nil, behind(ahead, s)), "one is out")
			}
		}
		wantIds(t, "all are out", x.All(), 1)
	}
}

// P16.1: an empty list and no list are one, in what is handed in.
func TestEmptyAndNone(t *testing.T) {
	bare := of(p(1), not(n(2)))
	full := of(
		api.Step{Kind: api.Pos, Key: api.Triple{1, 0, 0}, Tests: []api.Test{}, Subs: []api.Step{}},
		api.Step{Kind: api.Ncc, Tests: make([]api.Test, 0, 3), Subs: of(api.Step{Kind: api.Neg, Key: api.Triple{2, 0, 0}, Tests: []api.Test{}, Subs: make([]api.Step, 0, 2)})})
	x, m := grown(t, bare, full)
	wantIds(t, "both", x.All(), 1, 2, 3, 4)
	if x.Find(full) != 4 || x.Uses(4) != 2 {
		t.Error("Find, Uses:", x.Find(full), x.Uses(4))
	}
	wantRemove(t, x, m, full)
	wantRemove(t, x, m, full)
	wantIds(t, "none", x.All(), 1)
}

// P16.1: numbers go on rising behind a Remove, also if the newest node is out, or all but the top.
func TestNumbersRise(t *testing.T) {
	x := New()
	wantIds(t, "first", x.Add(of(p(1), p(2))), 2, 3)
	wantOut(t, x, of(p(1), p(2)), 3, 2)
	wantIds(t, "again", x.Add(of(p(1), p(2))), 4, 5)
	wantIds(t, "newest", x.Add(of(p(1), p(3))), 4, 6)
	wantOut(t, x, of(p(1), p(3)), 6)
	wantIds(t, "behind it", x.Add(of(p(1), p(3))), 4, 7)
	wantOut(t, x, of(p(1), p(2)), 5)
	wantIds(t, "in between", x.Add(of(p(1), p(2), not(p(3)))), 4, 8, 9, 10)
	wantIds(t, "All", x.All(), 1, 4, 7, 8, 9, 10)
	wantIds(t, "Kids", x.Kids(4), 7, 8)
	for _, l := range [][]api.Step{of(p(9)), nil, of(p(1), p(3), p(3))} {
		if _, e := x.Remove(l); e != api.ErrNone {
			t.Error("not there:", text(l), e)
		}
	}
	wantIds(t, "behind what was refused", x.Add(of(p(9))), 11)
	for i := range 50 {
		wantOut(t, x, of(p(9)), 11+i)
		wantIds(t, "over and over", x.Add(of(p(9))), 12+i)
	}
}

// P16.1: Remove of a list that isn't there answers ErrNone and changes nothing, even if there is a node of its chain.
func TestRemoveNone(t *testing.T) {
	long, ncc := of(p(1), n(2), p(3), p(4)), of(p(1), not(n(2), not(p(3))), p(5))
	x, m := grown(t, long, ncc)
	for i := range long {
		wantRefused(t, x, m, long[:i])
	}
	for _, c := range chainsOf(nil, ncc)[:5] {
		wantRefused(t, x, m, c)
	}
	for _, l := range [][]api.Step{behind(long, p(4)), behind(ncc, p(5)), of(p(4)), of(n(1), n(2), p(3), p(4)), of(p(1), n(2), p(4), p(3)), of(p(1), not(n(2), not(p(3)), p(5))), of(p(1), not(n(2)), p(5))} {
		wantRefused(t, x, m, l)
	}
	wantRemove(t, x, m, ncc)
	wantRefused(t, x, m, ncc)
	wantRemove(t, x, m, long)
	wantRefused(t, x, m, long)
	wantRefused(t, x, m, nil)
}

// P16.1: of a list that was added several times nothing is out till the last one is.
func TestRemoveSeveral(t *testing.T) {
	l := of(p(1), not(n(2), not(p(3)), p(4)), p(5))
	for times := 1; times <= 5; times++ {
		x, m := grown(t, slices.Repeat([][]api.Step{l}, times)...)
		for left := times - 1; left > 0; left-- {
			wantOut(t, x, l)
			m.remove(l)
			wantAsked(t, x, m, chainsOf(nil, l), fmt.Sprint(left, " left"))
			if x.Uses(1) != left || x.Uses(8) != left || x.Len() != 8 {
				t.Error("left", left, x.Uses(1), x.Uses(8), x.Len())
			}
		}
		wantOut(t, x, l, 8, 7, 6, 5, 4, 3, 2)
		m.remove(l)
		wantRefused(t, x, m, l)
	}
}

// P16.1: what others have is still there when a list is out: its beginning, its inner chains; what it had alone is out, falling.
func TestRemoveShared(t *testing.T) {
	x := New()
	x.Add(of(p(1), p(2), p(3)))                 // 2, 3, 4
	x.Add(of(p(1), p(2), p(4)))                 // 2, 3, 5
	x.Add(of(p(1), not(p(2)), p(3)))            // 2, 3, 6, 7
	x.Add(of(p(1), p(2)))                       // 2, 3
	x.Add(of(p(1), not(p(2), not(p(4))), p(3))) // 2, 3, 5, 8, 9, 10
	x.Add(of(not(p(1), p(2), p(3)), not(p(1)))) // 2, 3, 4, 11, 12, 13
	x.Add(of(p(5), n(6), not(not(p(7)), p(8)))) // 14, 15, 16, 17, 18, 19
	wantOut(t, x, of(p(1), p(2), p(3)))         // its end is an inner one
	wantOut(t, x, of(p(1), p(2), p(4)))         // its end, too, is one
	wantOut(t, x, of(not(p(1), p(2), p(3)), not(p(1))), 13, 12, 11, 4)
	wantOut(t, x, of(p(1), p(2)))
	wantOut(t, x, of(p(1), not(p(2), not(p(4))), p(3)), 10, 9, 8, 5)
	wantOut(t, x, of(p(5), n(6), not(not(p(7)), p(8))), 19, 18, 17, 16, 15, 14)
	wantOut(t, x, of(p(1), not(p(2)), p(3)), 7, 6, 3, 2)
	wantIds(t, "All", x.All(), 1)
}

// P16.1: Kids and Outer with none, one and several, rising, in whatever order they came and went.
func TestKids(t *testing.T) {
	x, m := New(), newModel()
	wantAdd(t, x, m, of(p(1)))
	wantIds(t, "none", x.Kids(2))
	wantAdd(t, x, m, of(p(1), p(9)))
	wantIds(t, "one", x.Kids(2), 3)
	for _, i := range []int{5, 2, 8, 1, 3} {
		wantAdd(t, x, m, of(p(1), p(i)))
	}
	wantIds(t, "several", x.Kids(2), 3, 4, 5, 6, 7, 8)
	for _, i := range []int{2, 9, 3} {
		wantRemove(t, x, m, of(p(1), p(i)))
		wantAsked(t, x, m, nil, "one is out")
	}
	wantIds(t, "one in between, the first and the last are out", x.Kids(2), 4, 6, 7)
	wantAdd(t, x, m, of(p(1), p(9)))
	wantAdd(t, x, m, of(p(1), not(p(8))))
	wantIds(t, "with new ones", x.Kids(2), 4, 6, 7, 9, 10)
	wantIds(t, "of the top", x.Kids(1), 2)
	wantAsked(t, x, m, nil, "with new ones")
}

// P16.1: a chain isn't in a list twice, as an Ncc is greater than what is in it, so one list more makes one use more; and whatever has a chain has those ahead of it.
func TestUsesOnce(t *testing.T) {
	for _, l := range lists(5) {
		chains := texts(chainsOf(nil, l))
		x := New()
		ids := x.Add(l)
		for i, id := range ids {
			if slices.Contains(chains[:i], chains[i]) || x.Uses(id) != 1 {
				t.Fatalf("Add(%s): the chain %s is used %d times", text(l), chains[i], x.Uses(id))
			}
			if slices.Contains(ids[:i], id) {
				t.Fatalf("Add(%s): %v", text(l), ids)
			}
		}
		for i, id := range x.Add(l) {
			if x.Uses(id) != 2 || id != ids[i] {
				t.Fatalf("Add(%s) again: %d, used %d times", text(l), id, x.Uses(id))
			}
		}
	}
	// Nccs that come again in one list, and whose Subs stand outside of them, too.
	for _, l := range [][]api.Step{
		of(p(1), not(p(1)), p(1), not(p(1)), not(p(1)), p(1)),
		of(not(p(1)), not(p(1)), p(1), p(1)),
		of(not(not(p(1)), p(1)), not(p(1)), p(1), not(not(p(1)))),
		of(p(1), p(1), not(p(1), p(1), not(p(1))), p(1), p(1)),
	} {
		x, m := grown(t, l)
		if x.Len() != size(l)+1 || slices.ContainsFunc(x.All(), func(id int) bool { return x.Uses(id) != 1 }) {
			t.Errorf("Add(%s): %d nodes", text(l), x.Len())
		}
		wantAsked(t, x, m, nil, "once")
		wantAdd(t, x, m, l)
		wantAsked(t, x, m, nil, "twice")
		wantRemove(t, x, m, l)
		wantAsked(t, x, m, nil, "once again")
	}
}

// lists is all lists of up to so many steps in all, up to three deep; the steps without Subs are one Pos or one Neg.
func lists(most int) [][]api.Step {
	var all [][]api.Step
	for k := 0; k <= most; k++ {
		all = append(all, forests(k, 1)...)
	}
	return all
}

// forests is all lists of k such steps in all, at a depth.
func forests(k, depth int) [][]api.Step {
	if k == 0 {
		return [][]api.Step{nil}
	}
	if depth > 3 {
		return nil
	}
	var all [][]api.Step
	for first := 1; first <= k; first++ {
		var heads []api.Step
		if first == 1 {
			heads = of(p(1), n(1))
		} else {
			for _, subs := range forests(first-1, depth+1) {
				heads = append(heads, not(subs...))
			}
		}
		for _, h := range heads {
			for _, rest := range forests(k-first, depth) {
				all = append(all, append(of(h), rest...))
			}
		}
	}
	return all
}

// P16.1, P16.2: each list of up to six steps by itself: its nodes are its chains, in the order of layer 8; then it is out.
func TestEachList(t *testing.T) {
	all := lists(6)
	if len(all) < 2000 {
		t.Fatal("only so many lists:", len(all))
	}
	for _, l := range all {
		x, m := New(), newModel()
		ids := x.Add(l)
		for i, c := range comp.Chains(l) {
			if ids[i] != i+2 || x.Find(c) != i+2 {
				t.Fatalf("Add(%s): %v, chain %d is %d", text(l), ids, i, x.Find(c))
			}
		}
		m.add(l)
		wantAsked(t, x, m, nil, text(l))
		wantRemove(t, x, m, l)
		wantAsked(t, x, m, nil, text(l))
	}
}

// P16.1, P16.2: each two lists of up to three steps: both come, the first one goes, comes again, and the second one goes.
func TestEachTwo(t *testing.T) {
	all := lists(3)
	for _, a := range all {
		for _, b := range all {
			x, m := grown(t, a, b)
			both := slices.Clone(m.row)
			wantAsked(t, x, m, nil, text(a)+" and"+text(b))
			wantRemove(t, x, m, a)
			wantAsked(t, x, m, chainsOf(nil, a), text(b))
			wantAdd(t, x, m, a)
			wantRemove(t, x, m, b)
			wantAsked(t, x, m, chainsOf(nil, b), text(a))
			wantRemove(t, x, m, a)
			for _, e := range both {
				if x.Find(e.chain) != 0 && e.id != 1 {
					t.Fatalf("%s and%s: all are out, but %s is %d", text(a), text(b), e.text, x.Find(e.chain))
				}
			}
		}
	}
}

// rows does all rows of so many calls more, with some lists, to new tries, and holds each against its model.
func rows(t *testing.T, some [][]api.Step, calls []int, more int) int {
	t.Helper()
	x, m := New(), newModel()
	for _, c := range calls {
		if c < len(some) {
			wantAdd(t, x, m, some[c])
		} else {
			wantRemove(t, x, m, some[c-len(some)])
		}
	}
	wantAsked(t, x, m, nil, fmt.Sprint(calls))
	if more == 0 {
		return 1
	}
	k := 0
	for c := range 2 * len(some) {
		k += rows(t, some, append(slices.Clone(calls), c), more-1)
	}
	return k
}

// P16.1: all rows of five calls with four lists that have much in common.
func TestAllCalls(t *testing.T) {
	some := [][]api.Step{nil, of(p(1), not(p(2))), of(p(1), p(2)), of(not(p(1), not(p(2))), p(1))}
	if k := rows(t, some, nil, 5); k != 8*8*8*8*8 {
		t.Error("so many rows:", k)
	}
}

// pick is a step without Subs, out of so many kinds of them that some are alike.
func pick(r *rand.Rand) api.Step {
	s := api.Step{Kind: 1 + r.Intn(2), Key: api.Triple{r.Intn(2), 0, 4096 * r.Intn(2)}}
	for f := range 3 {
		if r.Intn(5) == 0 {
			s.Tests = append(s.Tests, api.Test{Field: f, Back: r.Intn(2), Other: r.Intn(2)})
		}
	}
	return s
}

// some is so many steps in all, or less, at a depth.
func some(r *rand.Rand, room, depth int) []api.Step {
	var l []api.Step
	for room > 0 && r.Intn(8) > 0 {
		s := pick(r)
		if depth < 3 && room > 1 && r.Intn(4) == 0 {
			if subs := some(r, min(room-1, 4), depth+1); len(subs) > 0 {
				s = not(subs...)
			}
		}
		l = append(l, s)
		room -= size(of(s))
	}
	return l
}

// next is a list: a new one, or one that has something in common with one of a pool: it, its beginning, what is behind one of its chains, or with an Ncc opened, or closed.
func next(r *rand.Rand, pool [][]api.Step) []api.Step {
	l := some(r, 1+r.Intn(16), 1)
	if len(pool) == 0 || r.Intn(4) == 0 {
		return l
	}
	old := pool[r.Intn(len(pool))]
	if chains := chainsOf(nil, old); len(chains) > 0 && r.Intn(3) > 0 {
		old = chains[r.Intn(len(chains))]
	}
	old = old[:len(old)-r.Intn(len(old)+1)/2]
	switch {
	case r.Intn(2) == 0 && size(old)+size(l) <= 16:
		return behind(old, l...)
	case r.Intn(3) == 0 && len(old) > 0:
		at := r.Intn(len(old))
		if closed := behind(old[:at], not(old[at:]...)); size(closed) <= 16 && !slices.ContainsFunc(closed, func(s api.Step) bool { return !comp.Right(s) }) {
			return closed
		}
	}
	return old
}

// P16.1: random calls with lists of up to 16 steps, held against the model behind each of them.
func TestRandom(t *testing.T) {
	for seed := range int64(60) {
		r := rand.New(rand.NewSource(seed))
		x, m := New(), newModel()
		var pool [][]api.Step
		for i := range 40 {
			l := next(r, pool)
			pool = append(pool, l)
			if r.Intn(5) < 3 {
				wantAdd(t, x, m, copied(l))
			} else {
				wantRemove(t, x, m, copied(pool[r.Intn(len(pool))]))
			}
			wantAsked(t, x, m, chainsOf(nil, pool[r.Intn(len(pool))]), fmt.Sprint("seed ", seed, ", call ", i))
		}
		for _, l := range slices.Concat(pool, pool, pool) {
			wantRemove(t, x, m, l)
		}
	}
}

// different is how many unlike chains lists have.
func different(all [][]api.Step) int {
	chains := map[string]bool{}
	for _, l := range all {
		for _, c := range comp.Chains(l) {
			chains[text(c)] = true
		}
	}
	return len(chains)
}

// P16.2: whatever lists there are, in whatever order they came, with others that came and went in between: there is one node more than there are unlike chains.
func TestOneNodeEach(t *testing.T) {
	for seed := range int64(80) {
		r := rand.New(rand.NewSource(seed))
		var stay, passing [][]api.Step
		for range 1 + r.Intn(10) {
			stay = append(stay, next(r, stay))
			passing = append(passing, next(r, slices.Concat(stay, passing)))
		}
		want := different(stay) + 1
		for order := range 8 {
			x := New()
			r.Shuffle(len(stay), func(i, j int) { stay[i], stay[j] = stay[j], stay[i] })
			for i := range stay {
				x.Add(passing[i])
				x.Add(stay[i])
			}
			if got, all := x.Len(), different(slices.Concat(stay, passing))+1; got != all {
				t.Fatalf("seed %d, order %d: %d nodes, want %d", seed, order, got, all)
			}
			left := slices.Clone(passing)
			for range passing {
				at := r.Intn(len(left))
				if _, e := x.Remove(left[at]); e != api.OK {
					t.Fatalf("seed %d, order %d: Remove(%s): error %d", seed, order, text(left[at]), e)
				}
				left = slices.Delete(left, at, at+1)
				if got, all := x.Len(), different(slices.Concat(stay, left))+1; got != all {
					t.Fatalf("seed %d, order %d: %d nodes, want %d", seed, order, got, all)
				}
			}
			if x.Len() != want || len(x.All()) != want {
				t.Fatalf("seed %d, order %d: %d nodes at the end, want %d", seed, order, x.Len(), want)
			}
		}
	}
}

// turned is all orders of some lists.
func turned(all [][]api.Step) [][][]api.Step {
	if len(all) == 0 {
		return [][][]api.Step{nil}
	}
	var orders [][][]api.Step
	for i := range all {
		for _, rest := range turned(slices.Concat(all[:i], all[i+1:])) {
			orders = append(orders, append([][]api.Step{all[i]}, rest...))
		}
	}
	return orders
}

// P16.2: all orders in which five lists come, and go again: as many nodes as unlike chains, at each place.
func TestAllOrders(t *testing.T) {
	all := [][]api.Step{
		of(p(1), p(2), p(3)),
		of(p(1), not(p(2), p(3)), p(4)),
		of(p(1), p(2), not(p(3))),
		of(not(p(1), not(p(2))), p(3)),
		of(p(1), not(p(2), not(p(3)), p(4)), not(p(2))),
	}
	for _, order := range turned(all) {
		x, m := New(), newModel()
		for i, l := range order {
			wantAdd(t, x, m, l)
			if x.Len() != different(order[:i+1])+1 {
				t.Fatalf("%d lists: %d nodes", i+1, x.Len())
			}
		}
		wantAsked(t, x, m, nil, "all")
		for i, l := range order {
			wantRemove(t, x, m, l)
			if x.Len() != different(order[i+1:])+1 {
				t.Fatalf("%d lists are out: %d nodes", i+1, x.Len())
			}
		}
	}
}

// P16.1: what is handed in, and changed behind, changes nothing in the trie.
func TestHandedIn(t *testing.T) {
	fresh := func() []api.Step {
		return of(tested([3]int{0, 0, 1}), not(n(2), not(tested([3]int{1, 0, 0}, [3]int{2, 0, 2}), p(4))), p(5))
	}
	spoil := func(l []api.Step) {
		l[0].Tests[0] = api.Test{Field: 2, Back: 2, Other: 2}
		l[1].Subs[1].Subs[0].Tests[1].Back = 9
		l[1].Subs[1].Subs[1].Key[0] = 99
		l[1].Subs[0] = p(98)
		l[1].Subs = append(l[1].Subs, p(97))
		l[2] = not(p(96))
	}
	x, m := New(), newModel()
	m.add(fresh())
	l := fresh()
	x.Add(l)
	if text(l) != text(fresh()) {
		t.Error("Add wrote into it:", text(l))
	}
	spoil(l)
	wantAsked(t, x, m, chainsOf(nil, fresh()), "added, and spoiled")
	l = fresh()
	if id := x.Find(l); id != 8 || text(l) != text(fresh()) {
		t.Error("Find:", id, text(l))
	}
	spoil(l)
	wantAsked(t, x, m, chainsOf(nil, fresh()), "found, and spoiled")
	x.Add(fresh())
	l = fresh()
	if out, e := x.Remove(l); len(out) != 0 || e != api.OK || text(l) != text(fresh()) {
		t.Error("Remove:", out, e, text(l))
	}
	spoil(l)
	wantAsked(t, x, m, chainsOf(nil, fresh()), "taken out once, and spoiled")
	// The room behind a list isn't the trie's.
	room := append(fresh(), p(50), p(51))
	x.Add(room[:2])
	x.Find(room[:1])
	x.Remove(room[:2])
	if text(room) != text(append(fresh(), p(50), p(51))) {
		t.Error("behind it was written:", text(room))
	}
}

// P16.1: what was told may be changed, and may grow, without the trie or another answer; and stays as it was, whatever comes later.
func TestTold(t *testing.T) {
	l := of(tested([3]int{0, 0, 1}), not(n(2), not(tested([3]int{1, 0, 0}, [3]int{2, 0, 2}), p(4))), p(5))
	more := of(l[0], n(2), not(p(1)))
	x, m := grown(t, l)
	told := func() ([][]int, []api.Step) {
		lists := [][]int{x.All(), x.Kids(1), x.Kids(2), x.Kids(3), x.Outer(5), x.Outer(6), x.Outer(3), x.Add(more)}
		m.add(more)
		var steps []api.Step
		for _, id := range x.All() {
			s, _ := x.Step(id)
			steps = append(steps, s)
		}
		return lists, steps
	}
	told()
	first, steps := told()
	second, others := told()
	firstWas, secondWas, was := fmt.Sprint(first), fmt.Sprint(second), text(others)
	for _, ids := range first {
		_ = append(ids, 77, 78)
		for i := range ids {
			ids[i] = 99
		}
	}
	for _, s := range steps {
		for i := range s.Tests {
			s.Tests[i] = api.Test{Field: 2, Back: 2, Other: 2}
		}
		_ = append(s.Subs, p(77))
		for i := range s.Subs {
			for j := range s.Subs[i].Subs {
				s.Subs[i].Subs[j].Key = api.Triple{9, 9, 9}
				for k := range s.Subs[i].Subs[j].Tests {
					s.Subs[i].Subs[j].Tests[k].Back = 14
				}
			}
			s.Subs[i] = n(77)
		}
	}
	if fmt.Sprint(second) != secondWas || text(others) != was || fmt.Sprint(first) == firstWas {
		t.Error("another answer was changed:", second, text(others))
	}
	wantAsked(t, x, m, nil, "answers were changed")
	for range 3 {
		wantRemove(t, x, m, more)
	}
	out, _ := x.Remove(l)
	m.remove(l)
	outWas := slices.Clone(out)
	wantAdd(t, x, m, of(p(3), p(4), not(p(5))))
	if fmt.Sprint(second) != secondWas || text(others) != was {
		t.Error("what was told before:", second, text(others))
	}
	wantIds(t, "out", out, outWas...)
	for i := range out {
		out[i] = 1
	}
	wantAsked(t, x, m, chainsOf(nil, l), "those that are out were changed")
}

// P16.1: two tries know nothing of each other.
func TestTwo(t *testing.T) {
	a, am := grown(t, of(p(1), not(p(2))), of(p(1), p(3)))
	b, bm := New(), newModel()
	both := func(what string) {
		t.Helper()
		wantAsked(t, a, am, nil, what+": the one")
		wantAsked(t, b, bm, nil, what+": the other one")
	}
	both("one is new")
	wantRefused(t, b, bm, of(p(1), p(3)))
	wantAdd(t, b, bm, of(p(1), p(3)))
	wantAdd(t, b, bm, of(p(9)))
	both("both have something")
	wantRemove(t, a, am, of(p(1), p(3)))
	both("the one shrinks")
	wantRemove(t, b, bm, of(p(1), p(3)))
	wantAdd(t, a, am, of(p(9), p(9)))
	both("the other one shrinks")
	if a.Find(of(p(9))) == b.Find(of(p(9))) {
		t.Error("Find:", a.Find(of(p(9))), b.Find(of(p(9))))
	}
}

// P16.1: lists of 16 steps in all, in forms that have so many.
func TestMost(t *testing.T) {
	flat := slices.Repeat(of(p(1)), 16)
	all := [][]api.Step{
		flat,
		of(not(flat[:15]...)),
		of(not(not(flat[:14]...))),
		slices.Repeat(of(not(n(1))), 8),
		of(not(slices.Repeat(of(not(p(1))), 7)...), p(1)),
		append(slices.Repeat(of(p(1)), 14), not(n(2))),
		of(p(1), not(p(1), not(p(1), p(1), n(1)), p(1), not(p(1)), p(1)), p(1), not(p(1), p(1)), n(1)),
	}
	x, m := New(), newModel()
	for _, l := range all {
		if size(l) != 16 {
			t.Fatal("so many steps:", size(l))
		}
		wantAdd(t, x, m, l)
		wantAsked(t, x, m, chainsOf(nil, l), text(l))
	}
	if x.Depth(17) != 16 || x.Find(flat) != 17 {
		t.Error("Depth, Find:", x.Depth(17), x.Find(flat))
	}
	for i, l := range all {
		wantRemove(t, x, m, l)
		wantAsked(t, x, m, chainsOf(nil, l), fmt.Sprint("out: ", i))
	}
}

// P16.1: many nodes below the top, that come and go in another order.
func TestMany(t *testing.T) {
	const many = 2000
	x := New()
	wantIds(t, "Add", x.Add(of(not(p(1)), p(4096))), 2, 3, 4)
	for i := range many {
		wantIds(t, "Add", x.Add(of(p(i+2))), i+5)
	}
	if l := x.Kids(1); len(l) != many+2 || !slices.IsSorted(l) || x.Len() != many+4 {
		t.Error("Kids, Len:", len(l), x.Len())
	}
	for i := range many {
		at := i * 7 % many
		wantOut(t, x, of(p(at+2)), at+5)
	}
	wantIds(t, "All", x.All(), 1, 2, 3, 4)
	wantIds(t, "Kids", x.Kids(1), 2, 3)
}

// knots is steps and lists that aren't right, some of which stand in themselves.
func knots() [][]api.Step {
	self := of(not(p(1)))
	self[0].Subs = self
	mutual := of(not(p(1)), not(p(2)))
	mutual[0].Subs, mutual[1].Subs = mutual[1:], mutual[:1]
	wide := of(not(p(1)), p(1), p(2))
	wide[0].Subs = slices.Repeat(wide[:1], 15)
	four := make([]api.Test, 4)
	for i := range four {
		four[i].Field = i
	}
	return [][]api.Step{
		self, mutual, wide,
		of(p(1), self[0]),
		of(api.Step{}), of(api.Step{Kind: 4}), of(api.Step{Kind: -1, Key: api.Triple{1, 2, 3}}),
		of(p(-1)), of(p(4097)), of(p(1), p(math.MaxInt), p(2)),
		of(not()), of(p(1), not(), p(2)), of(not(not(not(not(p(1)))))),
		of(api.Step{Kind: api.Pos, Tests: four}), of(api.Step{Kind: api.Neg, Tests: make([]api.Test, 1000)}),
		of(tested([3]int{1, -1, 1})), of(tested([3]int{0, 16, 0})), of(tested([3]int{math.MinInt, math.MinInt, math.MaxInt})), of(tested([3]int{1, 0, 0}, [3]int{1, 0, 0})),
		of(api.Step{Kind: api.Pos, Subs: of(p(1))}), of(api.Step{Kind: api.Ncc, Key: api.Triple{1, 0, 0}, Subs: of(p(1))}),
		slices.Repeat(of(p(1)), 17), of(not(slices.Repeat(of(p(1)), 16)...)), slices.Repeat(of(not(p(1))), 9),
		slices.Repeat(of(p(1)), 1<<16), slices.Repeat(self, 1<<16), of(not(slices.Repeat(self, 1<<16)...)),
	}
}

// P16.1: of lists that aren't right, or too long, nothing is promised but an end; the others are what they are.
func TestNotRight(t *testing.T) {
	x, m := grown(t, of(p(1), not(p(2))), of(p(1)))
	for i, l := range knots() {
		for range 2 {
			ids := x.Add(l)
			id := x.Find(l)
			if out, e := x.Remove(l); e != api.ErrNone || len(out) != 0 || len(ids) != 0 || id != 0 {
				t.Errorf("list %d: Add %v, Find %d, Remove %v, error %d", i, ids, id, out, e)
			}
		}
		wantAsked(t, x, m, nil, fmt.Sprint("list ", i))
	}
	wantAdd(t, x, m, of(p(1), not(p(2)), p(3)))
	wantAsked(t, x, m, nil, "behind them")
}

// P16.1: of a trie that New didn't make nothing is promised but an end.
func TestWithoutNew(t *testing.T) {
	x := &Trie{}
	for _, l := range [][]api.Step{nil, of(p(1), not(p(2))), of(p(1)), of(p(3))} {
		for _, id := range append(slices.Clone(far), 0, 1, 2, 3, 4) {
			asked(x, id)
		}
		x.Remove(l)
		x.Find(l)
		x.Add(l)
		x.Len()
		x.All()
		x.Find(l)
		x.Add(l)
		x.Remove(l)
	}
}

// P16.1: calls that ask change nothing, whatever they ask for.
func TestAskingChangesNothing(t *testing.T) {
	x, m := grown(t, of(p(1), not(p(2), n(3)), p(4)), of(p(1), p(2)), nil)
	for range 3 {
		wantAsked(t, x, m, [][]api.Step{of(p(9)), of(p(1), p(9)), of(p(1), not(p(9))), of(not(p(1)))}, "asked")
	}
	wantIds(t, "behind it", x.Add(of(p(9))), 7)
}
