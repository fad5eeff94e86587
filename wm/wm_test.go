package wm

import (
	"fmt"
	"math"
	"math/rand"
	"slices"
	"testing"

	"retiary/api"
)

// model is the chapter's words, plainly: the triple of each id that was given, and whether its fact is out.
type model struct {
	limit int
	given []api.Triple
	out   []bool
}

func (m *model) all() []api.Fact {
	var l []api.Fact
	for i, t := range m.given {
		if !m.out[i] {
			l = append(l, api.Fact{Id: i + 1, T: t})
		}
	}
	return l
}

func (m *model) add(t api.Triple) (int, api.Errno) {
	for _, s := range t {
		if s <= 0 || s >= 4097 {
			return 0, api.ErrTerm
		}
	}
	if len(m.all()) == m.limit {
		return 0, api.ErrFull
	}
	m.given, m.out = append(m.given, t), append(m.out, false)
	return len(m.given), api.OK
}

func (m *model) get(id int) (api.Triple, bool) {
	for _, f := range m.all() {
		if f.Id == id {
			return f.T, true
		}
	}
	return api.Triple{}, false
}

func (m *model) remove(id int) (api.Triple, api.Errno) {
	t, ok := m.get(id)
	if !ok {
		return t, api.ErrFact
	}
	m.out[id-1] = true
	return t, api.OK
}

// near is ids that are asked for behind each call: all that were given, those about them, and such as are far away.
func (m *model) near() []int {
	l := []int{math.MinInt, -1 << 32, -1, 1 << 32, 1<<32 + 1, math.MaxInt}
	for id := 0; id <= len(m.given)+2; id++ {
		l = append(l, id)
	}
	return l
}

// wantAsked wants of all calls that ask for something what the model has.
func wantAsked(t *testing.T, x *Memory, m *model, what string) {
	t.Helper()
	want := m.all()
	if got := x.Len(); got != len(want) {
		t.Fatalf("%s: Len is %d, want %d", what, got, len(want))
	}
	if got := x.Last(); got != len(m.given) {
		t.Fatalf("%s: Last is %d, want %d", what, got, len(m.given))
	}
	if got := x.All(); !slices.Equal(got, want) {
		t.Fatalf("%s: All is %v, want %v", what, got, want)
	}
	for _, id := range m.near() {
		got, ok := x.Get(id)
		if want, wok := m.get(id); got != want || ok != wok {
			t.Fatalf("%s: Get(%d) is %v, %v, want %v, %v", what, id, got, ok, want, wok)
		}
	}
}

// wantAdd and wantRemove do it to a memory and its model, and want that they answer alike.
func wantAdd(t *testing.T, x *Memory, m *model, f api.Triple) {
	t.Helper()
	id, e := x.Add(f)
	if want, we := m.add(f); id != want || e != we {
		t.Fatalf("Add(%v) is %d, error %d, want %d, error %d", f, id, e, want, we)
	}
}

func wantRemove(t *testing.T, x *Memory, m *model, id int) {
	t.Helper()
	f, e := x.Remove(id)
	if want, we := m.remove(id); f != want || e != we {
		t.Fatalf("Remove(%d) is %v, error %d, want %v, error %d", id, f, e, want, we)
	}
}

// empty is a memory without facts, with its model.
func empty(t *testing.T, limit int) (*Memory, *model) {
	t.Helper()
	x, e := New(limit)
	if x == nil || e != api.OK {
		t.Fatalf("New(%d) is error %d", limit, e)
	}
	return x, &model{limit: limit}
}

// nth is a right triple for each number from 0 on, unlike those of the numbers near it.
func nth(n int) api.Triple { return api.Triple{1 + n%4096, 4096 - n%4096, 1 + n%7} }

// filled is a memory with so many facts, with its model.
func filled(t *testing.T, limit, n int) (*Memory, *model) {
	t.Helper()
	x, m := empty(t, limit)
	for i := range n {
		wantAdd(t, x, m, nth(i))
	}
	return x, m
}

// wrong is triples that aren't right: each field, by itself and with others, too small, too great, and far away.
func wrong() []api.Triple {
	l := []api.Triple{{}, {-1, 4097, 0}, {math.MinInt, math.MaxInt, 0}}
	for field := range 3 {
		for _, n := range []int{0, -1, 4097, 8193, 1<<32 + 1, -1<<32 + 1, 1<<62 + 1, math.MaxInt, math.MinInt, math.MinInt + 1} {
			t := api.Triple{1, 2, 4096}
			t[field] = n
			l = append(l, t)
			t[(field+1)%3] = n
			l = append(l, t)
		}
	}
	return l
}

// P11.1: what the chapter's example says.
func TestExample(t *testing.T) {
	m, _ := New(8)
	first, e1 := m.Add(api.Triple{1, 2, 3})
	second, e2 := m.Add(api.Triple{4, 5, 6})
	gone, e3 := m.Remove(2)
	third, e4 := m.Add(api.Triple{4, 5, 6})
	if first != 1 || second != 2 || third != 3 || gone != (api.Triple{4, 5, 6}) {
		t.Error(first, second, third, gone)
	}
	if e1 != api.OK || e2 != api.OK || e3 != api.OK || e4 != api.OK {
		t.Error(e1, e2, e3, e4)
	}
	if got := m.All(); !slices.Equal(got, []api.Fact{{Id: 1, T: api.Triple{1, 2, 3}}, {Id: 3, T: api.Triple{4, 5, 6}}}) {
		t.Error(got)
	}
}

// P11.1: a limit from 1 to 1024 makes a memory without facts, each of them.
func TestNew(t *testing.T) {
	for limit := 1; limit <= 1024; limit++ {
		x, m := empty(t, limit)
		wantAsked(t, x, m, fmt.Sprint("New of ", limit))
	}
}

// P11.1: any other limit is refused, and no memory is there.
func TestNewArg(t *testing.T) {
	for _, limit := range []int{0, -1, -2, -1024, 1025, 1026, 4096, 1 << 32, 1<<32 + 1, 1<<62 + 1, -1<<32 + 1, math.MaxInt, math.MinInt, math.MinInt + 1} {
		if x, e := New(limit); x != nil || e != api.ErrArg {
			t.Errorf("New(%d) is %v, error %d", limit, x, e)
		}
	}
}

// P11.1: a memory takes as many facts as its limit says and no more, whichever limit it is; behind a Remove it takes one again, with the next id.
func TestLimits(t *testing.T) {
	for _, limit := range []int{1, 2, 3, 10, 64, 1023, 1024} {
		x, m := filled(t, limit, limit)
		if x.Len() != limit || x.Last() != limit {
			t.Fatal("limit", limit, ": only", x.Len(), "facts")
		}
		for i := range 3 {
			wantFull(t, x, limit)
			wantAsked(t, x, m, fmt.Sprint("limit ", limit, ", full"))
			all := m.all()
			wantRemove(t, x, m, all[len(all)/2].Id)
			wantRemove(t, x, m, all[0].Id)
			for x.Len() < limit {
				wantAdd(t, x, m, nth(i))
			}
			wantAsked(t, x, m, fmt.Sprint("limit ", limit, ", full again"))
		}
	}
}

// wantFull wants that a memory takes no right triple, be it like one that is in or not.
func wantFull(t *testing.T, x *Memory, limit int) {
	t.Helper()
	for _, f := range []api.Triple{nth(0), nth(limit - 1), nth(limit), {1, 1, 1}, {4096, 4096, 4096}} {
		if id, e := x.Add(f); id != 0 || e != api.ErrFull {
			t.Errorf("limit %d: Add(%v) is %d, error %d", limit, f, id, e)
		}
	}
}

// P11.1: the memory of each limit has room for one fact less than for that of the next one.
func TestEachLimit(t *testing.T) {
	for limit := 1; limit <= 1024; limit += 1 + limit/16 {
		x, _ := empty(t, limit)
		for i := range limit {
			if id, e := x.Add(api.Triple{1, 1, 1}); id != i+1 || e != api.OK {
				t.Fatalf("limit %d: Add is %d, error %d", limit, id, e)
			}
		}
		if id, e := x.Add(api.Triple{1, 1, 1}); id != 0 || e != api.ErrFull {
			t.Fatalf("limit %d: Add beyond it is %d, error %d", limit, id, e)
		}
	}
}

// P11.1: right triples, the least and the greatest symbols and alike ones among them, each get an id of their own and are kept as they are.
func TestAdd(t *testing.T) {
	x, m := empty(t, 1024)
	for _, f := range []api.Triple{{1, 1, 1}, {4096, 4096, 4096}, {1, 4096, 1}, {4096, 1, 2}, {1, 1, 1}, {7, 8, 9}, {9, 8, 7}, {1, 1, 1}, {4096, 4096, 4096}} {
		wantAdd(t, x, m, f)
		wantAsked(t, x, m, fmt.Sprint("Add of ", f))
	}
	for s := 1; s <= 900; s++ {
		wantAdd(t, x, m, api.Triple{s, 4097 - s, 2000 + s})
	}
	wantAsked(t, x, m, "all kinds of symbols")
}

// P11.1: the triple that was handed in may be changed, and so may those that are answered.
func TestAddCopies(t *testing.T) {
	x, m := empty(t, 4)
	f := api.Triple{1, 2, 3}
	wantAdd(t, x, m, f)
	f[0] = 9
	got, _ := x.Get(1)
	got[1] = 9
	wantAsked(t, x, m, "changed")
}

// P11.1: a triple that isn't right is refused by ErrTerm, whether there is room or not, and nothing changes, no id among it.
func TestAddTerm(t *testing.T) {
	for _, n := range []int{0, 1, 2, 3} {
		x, m := filled(t, 3, n)
		for _, f := range wrong() {
			if id, e := x.Add(f); id != 0 || e != api.ErrTerm {
				t.Errorf("with %d facts: Add(%v) is %d, error %d", n, f, id, e)
			}
			wantAsked(t, x, m, fmt.Sprint("with ", n, " facts, refused ", f))
		}
		if n < 3 {
			wantAdd(t, x, m, nth(n))
			wantAsked(t, x, m, "the next one")
		}
	}
}

// P11.1: ids rise by one whatever goes in between, none is given twice, and refused calls take none.
func TestIds(t *testing.T) {
	x, _ := empty(t, 2)
	last := 0
	next := func(f api.Triple) {
		t.Helper()
		id, e := x.Add(f)
		if id != last+1 || e != api.OK || x.Last() != id {
			t.Fatalf("Add is %d, error %d, behind %d", id, e, last)
		}
		last = id
	}
	for round := range 500 {
		f := nth(round)
		next(f)
		next(f)
		x.Add(f)
		x.Add(api.Triple{0, 1, 1})
		x.Remove(0)
		x.Remove(last + 1)
		first := last - round%2
		x.Remove(first)
		x.Remove(first)
		next(f)
		for id := range last + 2 {
			x.Remove(id)
		}
		if x.Len() != 0 || x.Last() != last {
			t.Fatal("all is gone:", x.Len(), x.Last(), last)
		}
	}
	if last != 1500 {
		t.Error(last)
	}
}

// P11.1: Remove of each of some facts answers its triple, and only that fact is gone; once it is, it is none.
func TestRemoveEach(t *testing.T) {
	for id := 1; id <= 12; id++ {
		x, m := filled(t, 12, 12)
		for range 3 {
			wantRemove(t, x, m, id)
			wantAsked(t, x, m, fmt.Sprint("Remove of ", id))
		}
		wantAdd(t, x, m, nth(id-1))
		wantRemove(t, x, m, id)
		wantAsked(t, x, m, fmt.Sprint("one like ", id, " came"))
	}
}

// P11.1: of facts that are alike the one of that id goes, and no other.
func TestRemoveAlike(t *testing.T) {
	f := api.Triple{5, 5, 5}
	for id := 1; id <= 5; id++ {
		x, m := empty(t, 5)
		for range 5 {
			wantAdd(t, x, m, f)
		}
		wantRemove(t, x, m, id)
		wantAsked(t, x, m, fmt.Sprint("alike, Remove of ", id))
	}
}

// P11.1: Remove of what never was or no more is answers ErrFact, and nothing changes.
func TestRemoveFact(t *testing.T) {
	x, m := filled(t, 6, 6)
	wantRemove(t, x, m, 1)
	wantRemove(t, x, m, 4)
	wantRemove(t, x, m, 6)
	for _, id := range m.near() {
		if _, ok := m.get(id); ok {
			continue
		}
		for range 2 {
			if f, e := x.Remove(id); f != (api.Triple{}) || e != api.ErrFact {
				t.Errorf("Remove(%d) is %v, error %d", id, f, e)
			}
			wantAsked(t, x, m, fmt.Sprint("refused ", id))
		}
	}
	wantAdd(t, x, m, nth(9))
	wantAsked(t, x, m, "the next one")
}

// P11.1: of a new memory, and of one from which all is gone, nothing can be asked; the latter goes on with the next id.
func TestNothing(t *testing.T) {
	for _, n := range []int{0, 1, 2, 20} {
		x, m := filled(t, 20, n)
		for id := n; id >= 1; id-- {
			wantRemove(t, x, m, id)
		}
		if x.Len() != 0 || len(x.All()) != 0 || x.Last() != n {
			t.Error(n, x.Len(), x.All(), x.Last())
		}
		for _, id := range m.near() {
			wantRemove(t, x, m, id)
		}
		wantAsked(t, x, m, "nothing is there")
		wantAdd(t, x, m, nth(0))
		if x.Last() != n+1 {
			t.Error("the next id:", x.Last())
		}
		wantAsked(t, x, m, "one again")
	}
}

// P11.1: All rises by ids in whatever order facts go, with what is gone left out.
func TestAllRises(t *testing.T) {
	r := rand.New(rand.NewSource(1))
	for _, n := range []int{1, 2, 3, 12, 13, 100, 1024} {
		x, m := filled(t, 1024, n)
		for i, id := range r.Perm(n) {
			if i%2 == 0 {
				continue
			}
			wantRemove(t, x, m, id+1)
		}
		for range n / 3 {
			wantAdd(t, x, m, nth(r.Intn(5000)))
		}
		wantAsked(t, x, m, fmt.Sprint("half of ", n, " is gone"))
		if l := x.All(); !slices.IsSortedFunc(l, func(a, b api.Fact) int { return a.Id - b.Id }) {
			t.Error(l)
		}
	}
}

// P11.1: All answers the same each time, and what it answered may be changed without anything else changing.
func TestAllCopies(t *testing.T) {
	x, m := filled(t, 40, 30)
	wantRemove(t, x, m, 7)
	first, second := x.All(), x.All()
	if !slices.Equal(first, second) {
		t.Fatal("called twice:", first, second)
	}
	for i := range first {
		first[i] = api.Fact{Id: -1, T: api.Triple{9, 9, 9}}
	}
	first = append(first[:0], api.Fact{Id: 99})
	if !slices.Equal(second, m.all()) {
		t.Error("two answers share memory:", second)
	}
	wantAsked(t, x, m, "an answer was changed")
	_ = append(second, api.Fact{Id: 100})
	wantAdd(t, x, m, nth(3))
	if !slices.Equal(second, m.all()[:29]) {
		t.Error("an answer changed behind a call:", second)
	}
	wantAsked(t, x, m, "one more")
}

// call is one of the calls that change a memory: of a triple, or of an id.
type call struct {
	remove bool
	id     int
	f      api.Triple
}

// do does a call to a memory and its model.
func (c call) do(t *testing.T, x *Memory, m *model) {
	t.Helper()
	if c.remove {
		wantRemove(t, x, m, c.id)
	} else {
		wantAdd(t, x, m, c.f)
	}
}

// playAll does all rows of so many calls more to new memories, and holds each against its model.
func playAll(t *testing.T, l []call, more int) int {
	t.Helper()
	x, m := empty(t, 2)
	for _, c := range l {
		c.do(t, x, m)
	}
	wantAsked(t, x, m, fmt.Sprint(l))
	if more == 0 {
		return 1
	}
	n := 0
	for _, f := range []api.Triple{{1, 2, 3}, {3, 2, 1}, {1, 2, 0}} {
		n += playAll(t, append(slices.Clone(l), call{f: f}), more-1)
	}
	for id := range 4 {
		n += playAll(t, append(slices.Clone(l), call{remove: true, id: id}), more-1)
	}
	return n
}

// P11.1: all rows of five calls, with room for two facts: two right triples and a wrong one, and the ids from 0 to 3.
func TestAllCalls(t *testing.T) {
	if n := playAll(t, nil, 5); n != 16807 {
		t.Error("only so many rows:", n)
	}
}

// P11.1: two memories, with limits of their own, know nothing of each other.
func TestTwo(t *testing.T) {
	a, am := empty(t, 2)
	b, bm := empty(t, 3)
	both := func(what string) {
		t.Helper()
		wantAsked(t, a, am, what+": the one")
		wantAsked(t, b, bm, what+": the other one")
	}
	both("new")
	wantAdd(t, a, am, nth(0))
	both("one has a fact")
	for i := range 4 {
		wantAdd(t, b, bm, nth(i+1))
		both("the other one is filled")
	}
	wantAdd(t, a, am, nth(1))
	wantAdd(t, a, am, nth(2))
	both("both are full")
	wantRemove(t, b, bm, 1)
	wantRemove(t, a, am, 3)
	both("the other one has room")
	wantAdd(t, a, am, nth(9))
	wantAdd(t, b, bm, nth(9))
	both("the one has none")
}

// P11.1: a memory that New didn't make has no room, and nothing can be asked of it.
func TestWithoutNew(t *testing.T) {
	x, m := &Memory{}, &model{}
	for _, f := range append(wrong(), nth(0), nth(1)) {
		wantAdd(t, x, m, f)
		wantRemove(t, x, m, 1)
		wantAsked(t, x, m, "without New")
	}
}

// anyCall is a call at random: mostly of what can be, with ids that are, that were, and that never were, and with wrong triples.
func anyCall(r *rand.Rand, m *model) call {
	all := m.all()
	switch n := r.Intn(20); {
	case n < 9:
		return call{f: api.Triple{1 + r.Intn(3), 1 + r.Intn(2), 4096 - r.Intn(2)}}
	case n < 10:
		return call{f: wrong()[r.Intn(len(wrong()))]}
	case n < 17 && len(all) > 0:
		return call{remove: true, id: all[r.Intn(len(all))].Id}
	case n < 19:
		return call{remove: true, id: r.Intn(len(m.given)+3) - 1}
	}
	return call{remove: true, id: int(r.Uint64())}
}

// P11.1: random calls, held against the model behind each of them.
func TestRandom(t *testing.T) {
	for seed := range int64(60) {
		r := rand.New(rand.NewSource(seed))
		x, m := empty(t, 1+r.Intn(12))
		for i := range 200 {
			anyCall(r, m).do(t, x, m)
			wantAsked(t, x, m, fmt.Sprint("seed ", seed, ", call ", i))
		}
	}
}
