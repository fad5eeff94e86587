package alpha

import (
	"fmt"
	"math"
	"math/rand"
	"slices"
	"testing"

	"retiary/api"
)

// entry is that a memory has an id.
type entry struct {
	k  api.Triple
	id int
}

// model is the chapter's words, plainly: each want by itself, and each id that a memory has, in no order that matters.
type model struct {
	wants []api.Triple
	in    []entry
}

// fits tells whether a triple has a key: each field is any, or the triple's.
func fits(t, k api.Triple) bool {
	for i := range 3 {
		if k[i] > 0 && k[i] != t[i] {
			return false
		}
	}
	return true
}

// eight is a triple's keys, as layer 7 numbers them.
func eight(t api.Triple) []api.Triple {
	a, b, c := t[0], t[1], t[2]
	return []api.Triple{{0, 0, 0}, {a, 0, 0}, {0, b, 0}, {a, b, 0}, {0, 0, c}, {a, 0, c}, {0, b, c}, {a, b, c}}
}

func (m *model) wanted(k api.Triple) int {
	n := 0
	for _, w := range m.wants {
		if w == k {
			n++
		}
	}
	return n
}

func (m *model) want(k api.Triple, facts []api.Fact) int {
	m.wants = append(m.wants, k)
	n := m.wanted(k)
	for _, f := range facts {
		if n == 1 && fits(f.T, k) {
			m.put(k, f.Id)
		}
	}
	return n
}

func (m *model) drop(k api.Triple) (int, api.Errno) {
	i := slices.Index(m.wants, k)
	if i < 0 {
		return 0, api.ErrNone
	}
	m.wants = slices.Delete(m.wants, i, i+1)
	for _, id := range m.items(k) {
		if m.wanted(k) == 0 {
			m.take(k, id)
		}
	}
	return m.wanted(k), api.OK
}

func (m *model) put(k api.Triple, id int) bool {
	if m.wanted(k) == 0 || slices.Contains(m.in, entry{k, id}) {
		return false
	}
	m.in = append(m.in, entry{k, id})
	return true
}

func (m *model) take(k api.Triple, id int) bool {
	i := slices.Index(m.in, entry{k, id})
	if i >= 0 {
		m.in = slices.Delete(m.in, i, i+1)
	}
	return i >= 0
}

// those is those of a triple's eight keys at which something holds, in order.
func those(x api.Triple, hold func(k api.Triple) bool) []api.Triple {
	return slices.DeleteFunc(eight(x), func(k api.Triple) bool { return !hold(k) })
}

func (m *model) touched(x api.Triple) []api.Triple {
	return those(x, func(k api.Triple) bool { return m.wanted(k) > 0 })
}

func (m *model) add(f api.Fact) []api.Triple {
	return those(f.T, func(k api.Triple) bool { return m.put(k, f.Id) })
}

func (m *model) remove(f api.Fact) []api.Triple {
	return those(f.T, func(k api.Triple) bool { return m.take(k, f.Id) })
}

func (m *model) items(k api.Triple) []int {
	var l []int
	for _, e := range m.in {
		if e.k == k {
			l = append(l, e.id)
		}
	}
	slices.Sort(l)
	return l
}

// keys is the keys that are wanted, each once.
func (m *model) keys() []api.Triple {
	var l []api.Triple
	for _, k := range m.wants {
		if !slices.Contains(l, k) {
			l = append(l, k)
		}
	}
	return l
}

// cube is all triples whose fields are some of these.
func cube(of ...int) []api.Triple {
	var all []api.Triple
	for _, a := range of {
		for _, b := range of {
			for _, c := range of {
				all = append(all, api.Triple{a, b, c})
			}
		}
	}
	return all
}

// asked is keys and triples of which stores are asked.
func asked() (keys, triples []api.Triple) {
	keys, triples = cube(0, 1, 2), cube(1, 2)
	keys = append(keys, eight(api.Triple{7, 8, 9})[1:]...)
	keys = append(keys, eight(api.Triple{4096, 3, 4096})[1:]...)
	return keys, append(triples, api.Triple{7, 8, 9}, api.Triple{9, 8, 7}, api.Triple{4096, 3, 4096}, api.Triple{4095, 3, 4096})
}

// wantAsked wants of all calls that ask for something what the model has.
func wantAsked(t *testing.T, s *Store, m *model, what string) {
	t.Helper()
	if got, want := s.Len(), len(m.keys()); got != want {
		t.Fatalf("%s: Len is %d, want %d", what, got, want)
	}
	keys, triples := asked()
	for _, k := range append(keys, m.keys()...) {
		if got, want := s.Wanted(k), m.wanted(k); got != want {
			t.Fatalf("%s: Wanted(%v) is %d, want %d", what, k, got, want)
		}
		if got, want := s.Items(k), m.items(k); !slices.Equal(got, want) {
			t.Fatalf("%s: Items(%v) is %v, want %v", what, k, got, want)
		}
	}
	for _, x := range triples {
		if got, want := s.Touched(x), m.touched(x); !slices.Equal(got, want) {
			t.Fatalf("%s: Touched(%v) is %v, want %v", what, x, got, want)
		}
	}
}

// wantWant and those behind it do it to a store and its model, and want that they answer alike.
func wantWant(t *testing.T, s *Store, m *model, k api.Triple, facts []api.Fact) {
	t.Helper()
	if got, want := s.Want(k, facts), m.want(k, facts); got != want {
		t.Fatalf("Want(%v, %v) is %d, want %d", k, facts, got, want)
	}
}

func wantDrop(t *testing.T, s *Store, m *model, k api.Triple) {
	t.Helper()
	n, e := s.Drop(k)
	if want, we := m.drop(k); n != want || e != we {
		t.Fatalf("Drop(%v) is %d, error %d, want %d, error %d", k, n, e, want, we)
	}
}

func wantPut(t *testing.T, s *Store, m *model, k api.Triple, id int) {
	t.Helper()
	if got, want := s.Put(k, id), m.put(k, id); got != want {
		t.Fatalf("Put(%v, %d) is %v", k, id, got)
	}
}

func wantTake(t *testing.T, s *Store, m *model, k api.Triple, id int) {
	t.Helper()
	if got, want := s.Take(k, id), m.take(k, id); got != want {
		t.Fatalf("Take(%v, %d) is %v", k, id, got)
	}
}

func wantAdd(t *testing.T, s *Store, m *model, f api.Fact) {
	t.Helper()
	if got, want := s.Add(f), m.add(f); !slices.Equal(got, want) {
		t.Fatalf("Add(%v) is %v, want %v", f, got, want)
	}
}

func wantRemove(t *testing.T, s *Store, m *model, f api.Fact) {
	t.Helper()
	if got, want := s.Remove(f), m.remove(f); !slices.Equal(got, want) {
		t.Fatalf("Remove(%v) is %v, want %v", f, got, want)
	}
}

// wanting is a store that wants these keys, each with these facts, and its model.
func wanting(t *testing.T, facts []api.Fact, keys ...api.Triple) (*Store, *model) {
	t.Helper()
	s, m := New(), &model{}
	for _, k := range keys {
		wantWant(t, s, m, k, facts)
	}
	return s, m
}

// spread is facts of all triples of two symbols, and of some others, with ids that don't rise.
func spread() []api.Fact {
	var l []api.Fact
	_, triples := asked()
	for i, x := range triples {
		l = append(l, api.Fact{Id: 1 + (i*7)%len(triples), T: x})
	}
	return l
}

// P12.1: what the chapter's example says.
func TestExample(t *testing.T) {
	s := New()
	k := api.Triple{0, 2, 0}
	n := s.Want(k, nil)
	told := s.Add(api.Fact{Id: 9, T: api.Triple{1, 2, 3}})
	if n != 1 || !slices.Equal(told, []api.Triple{k}) || !slices.Equal(s.Items(k), []int{9}) {
		t.Error(n, told, s.Items(k))
	}
}

// P12.1: a new store has no memories, and nothing can be put, taken or dropped there.
func TestNew(t *testing.T) {
	s, m := New(), &model{}
	wantAsked(t, s, m, "new")
	keys, triples := asked()
	for i, k := range keys {
		wantDrop(t, s, m, k)
		wantPut(t, s, m, k, i)
		wantTake(t, s, m, k, i)
	}
	for i, x := range triples {
		wantAdd(t, s, m, api.Fact{Id: i, T: x})
		wantRemove(t, s, m, api.Fact{Id: i, T: x})
	}
	wantAsked(t, s, m, "all was refused")
}

// P12.1: a key that wasn't wanted has from then on the ids of just those facts that have it, for keys of each kind; no other memory has any.
func TestWant(t *testing.T) {
	keys, _ := asked()
	for _, k := range keys {
		s, m := wanting(t, spread(), k)
		wantAsked(t, s, m, fmt.Sprint("Want of ", k))
	}
	s, m := New(), &model{}
	for _, k := range keys {
		wantWant(t, s, m, k, spread())
		wantAsked(t, s, m, fmt.Sprint("Want of all up to ", k))
	}
}

// P12.1: a memory has the ids that the chapter's words give, written out.
func TestWantItems(t *testing.T) {
	facts := []api.Fact{{Id: 6, T: api.Triple{1, 2, 3}}, {Id: 2, T: api.Triple{1, 2, 4}}, {Id: 5, T: api.Triple{5, 2, 3}}, {Id: 3, T: api.Triple{2, 1, 3}}}
	for _, want := range []struct {
		k   api.Triple
		ids []int
	}{
		{api.Triple{}, []int{2, 3, 5, 6}}, {api.Triple{1, 0, 0}, []int{2, 6}}, {api.Triple{0, 2, 0}, []int{2, 5, 6}}, {api.Triple{0, 0, 3}, []int{3, 5, 6}},
		{api.Triple{1, 2, 0}, []int{2, 6}}, {api.Triple{1, 0, 3}, []int{6}}, {api.Triple{0, 2, 3}, []int{5, 6}}, {api.Triple{5, 2, 3}, []int{5}},
		{api.Triple{2, 0, 0}, []int{3}}, {api.Triple{3, 0, 0}, nil}, {api.Triple{2, 2, 0}, nil}, {api.Triple{1, 2, 5}, nil}, {api.Triple{3, 2, 1}, nil},
	} {
		s := New()
		if n := s.Want(want.k, facts); n != 1 || !slices.Equal(s.Items(want.k), want.ids) {
			t.Errorf("Want(%v): %d, %v, want %v", want.k, n, s.Items(want.k), want.ids)
		}
	}
}

// P12.1: with no facts, an empty list or none, a memory that is wanted has nothing.
func TestWantNothing(t *testing.T) {
	keys, _ := asked()
	for _, k := range keys {
		for _, facts := range [][]api.Fact{nil, {}, spread()[:0]} {
			s, m := wanting(t, facts, k)
			wantAsked(t, s, m, fmt.Sprint("Want of ", k, " with nothing"))
			if s.Len() != 1 || s.Wanted(k) != 1 || len(s.Items(k)) != 0 {
				t.Error(k, s.Len(), s.Wanted(k), s.Items(k))
			}
		}
	}
}

// P12.1: a key that is wanted is so once more, and what is handed in changes nothing of what its memory has.
func TestWantMore(t *testing.T) {
	for _, k := range eight(api.Triple{1, 2, 1}) {
		for _, first := range [][]api.Fact{nil, spread()[:3], spread()} {
			s, m := wanting(t, first, k)
			ids := s.Items(k)
			for n, more := range [][]api.Fact{spread(), nil, {{Id: 99, T: api.Triple{1, 2, 1}}}, first} {
				if got := s.Want(k, more); got != n+2 || !slices.Equal(s.Items(k), ids) {
					t.Fatalf("Want(%v) again is %d, with %v, want %d, %v", k, got, s.Items(k), n+2, ids)
				}
				m.want(k, more)
				wantAsked(t, s, m, fmt.Sprint(k, " is wanted ", n+2, " times"))
			}
		}
	}
}

// P12.1: the order of the facts doesn't matter, nor do alike ones among them: the same fact twice has one id, two that are alike have two.
func TestWantAlike(t *testing.T) {
	r := rand.New(rand.NewSource(1))
	a, b := api.Triple{1, 2, 1}, api.Triple{1, 1, 2}
	facts := []api.Fact{{Id: 4, T: a}, {Id: 1, T: a}, {Id: 4, T: a}, {Id: 9, T: b}, {Id: 2, T: b}, {Id: 2, T: b}, {Id: 3, T: a}, {Id: 4, T: a}}
	for range 60 {
		r.Shuffle(len(facts), func(i, j int) { facts[i], facts[j] = facts[j], facts[i] })
		s, m := wanting(t, facts, api.Triple{}, api.Triple{0, 2, 0}, api.Triple{0, 1, 0}, b)
		wantAsked(t, s, m, fmt.Sprint(facts))
		if l := s.Items(api.Triple{}); !slices.Equal(l, []int{1, 2, 3, 4, 9}) {
			t.Error(l)
		}
		if l := s.Items(api.Triple{0, 2, 0}); !slices.Equal(l, []int{1, 3, 4}) {
			t.Error(l)
		}
		if l := s.Items(b); !slices.Equal(l, []int{2, 9}) {
			t.Error(l)
		}
	}
}

// P12.1: a key that is no more wanted has no memory; wanted again, it has what is handed in then, and nothing of before.
func TestWantAgain(t *testing.T) {
	facts := spread()
	for _, k := range eight(api.Triple{1, 2, 1}) {
		s, m := wanting(t, facts, k, api.Triple{0, 1, 0})
		for _, again := range [][]api.Fact{nil, facts[:4], facts} {
			wantPut(t, s, m, k, 77)
			for m.wanted(k) > 0 {
				wantDrop(t, s, m, k)
			}
			wantAsked(t, s, m, fmt.Sprint(k, " is gone"))
			wantPut(t, s, m, k, 78)
			wantTake(t, s, m, k, 77)
			wantAdd(t, s, m, api.Fact{Id: 79, T: api.Triple{1, 2, 1}})
			wantWant(t, s, m, k, again)
			wantAsked(t, s, m, fmt.Sprint(k, " is wanted again"))
		}
	}
}

// P12.1: Drop of a key that isn't wanted answers ErrNone, and nothing changes: keys beside those that are wanted, and those that were.
func TestDropNone(t *testing.T) {
	keys, _ := asked()
	s, m := wanting(t, spread(), api.Triple{}, api.Triple{1, 2, 0}, api.Triple{1, 2, 1}, api.Triple{7, 0, 9}, api.Triple{1, 2, 0}, api.Triple{2, 0, 0})
	wantDrop(t, s, m, api.Triple{2, 0, 0})
	for _, k := range keys {
		if m.wanted(k) > 0 {
			continue
		}
		for range 2 {
			if n, e := s.Drop(k); n != 0 || e != api.ErrNone {
				t.Errorf("Drop(%v) is %d, error %d", k, n, e)
			}
		}
		wantAsked(t, s, m, fmt.Sprint("refused ", k))
	}
}

// P12.1: Drop wants once less; the memory keeps what it has until it isn't wanted, and then only that memory is no more.
func TestDrop(t *testing.T) {
	for times := 1; times <= 5; times++ {
		for _, k := range eight(api.Triple{1, 2, 1}) {
			s, m := wanting(t, spread(), eight(api.Triple{1, 2, 1})...)
			for m.wanted(k) < times {
				wantWant(t, s, m, k, nil)
			}
			ids := s.Items(k)
			for left := times - 1; left >= 0; left-- {
				if !slices.Equal(s.Items(k), ids) || s.Len() != 8 {
					t.Fatalf("%v with %d wants: %v, want %v", k, left+1, s.Items(k), ids)
				}
				wantDrop(t, s, m, k)
				wantAsked(t, s, m, fmt.Sprint(k, " with ", left, " wants"))
			}
			if n, e := s.Drop(k); n != 0 || e != api.ErrNone || s.Len() != 7 || len(s.Items(k)) != 0 {
				t.Fatal(k, n, e, s.Len(), s.Items(k))
			}
		}
	}
}

// turns is so many orders of eight things: rising, falling, and at random.
func turns(n int) [][]int {
	r := rand.New(rand.NewSource(2))
	l := [][]int{{0, 1, 2, 3, 4, 5, 6, 7}, {7, 6, 5, 4, 3, 2, 1, 0}}
	for len(l) < n {
		l = append(l, r.Perm(8))
	}
	return l
}

// P12.1: Touched tells those of a triple's eight keys that are wanted, in the order of layer 7's eight, whichever are and in whatever order they came; keys that the triple doesn't have are never told.
func TestTouched(t *testing.T) {
	for _, x := range []api.Triple{{7, 8, 9}, {4096, 1, 4096}, {2, 2, 2}} {
		all := eight(x)
		for chosen := range 256 {
			for _, order := range turns(4) {
				s := New()
				var want []api.Triple
				for n, k := range all {
					if chosen>>n&1 == 1 {
						want = append(want, k)
					}
				}
				for _, n := range order {
					if chosen>>n&1 == 1 {
						s.Want(all[n], nil)
					}
				}
				for _, k := range cube(0, 3, 10)[1:] {
					s.Want(k, nil)
				}
				if got := s.Touched(x); !slices.Equal(got, want) {
					t.Fatalf("Touched(%v) is %v, want %v", x, got, want)
				}
			}
		}
	}
}

// P12.1: a key's memory is touched just by the triples that have it, however often it is wanted and whatever it has.
func TestTouchedEach(t *testing.T) {
	keys, triples := asked()
	for _, k := range keys {
		s, m := wanting(t, nil, k, k)
		for _, full := range []bool{false, true} {
			for _, x := range triples {
				if got := s.Touched(x); len(got) > 1 || (len(got) == 1) != fits(x, k) || len(got) == 1 && got[0] != k {
					t.Errorf("Touched(%v) is %v, with %v wanted", x, got, k)
				}
			}
			if !full {
				wantPut(t, s, m, k, 1)
			}
		}
		wantAsked(t, s, m, "nothing of it changes by asking")
	}
}

// P12.1: Put at a key that is wanted, where the id is in already, and at keys that aren't wanted; no other memory has it.
func TestPut(t *testing.T) {
	k, far := api.Triple{1, 2, 0}, api.Triple{1, 0, 0}
	s, m := wanting(t, nil, k, far, api.Triple{2, 0, 0})
	wantDrop(t, s, m, api.Triple{2, 0, 0})
	for _, id := range []int{5, 1, 3, 1024, 0, -1, math.MaxInt, math.MinInt, 1<<32 + 5, 2} {
		if !s.Put(k, id) || s.Put(k, id) || s.Put(k, id) || s.Put(api.Triple{2, 0, 0}, id) || s.Put(api.Triple{}, id) || s.Put(api.Triple{1, 2, 1}, id) {
			t.Errorf("Put of %d", id)
		}
		m.put(k, id)
		wantAsked(t, s, m, fmt.Sprint("Put of ", id))
	}
	if want := []int{math.MinInt, -1, 0, 1, 2, 3, 5, 1024, 1<<32 + 5, math.MaxInt}; !slices.Equal(s.Items(k), want) {
		t.Error(s.Items(k))
	}
	wantPut(t, s, m, far, 5)
	wantAsked(t, s, m, "the other memory has it, too")
}

// P12.1: Take of an id that is in, of one that isn't or no more is, and at keys that aren't wanted; the other memories keep it.
func TestTake(t *testing.T) {
	ids := []int{0, 1, 2, 3, 50, -7, math.MaxInt, math.MinInt}
	k, far := api.Triple{0, 2, 1}, api.Triple{}
	s, m := wanting(t, nil, k, k, far)
	for _, id := range ids {
		wantPut(t, s, m, k, id)
		wantPut(t, s, m, far, id)
	}
	for _, id := range ids {
		if s.Take(k, 99) || s.Take(api.Triple{0, 2, 2}, id) || !s.Take(k, id) || s.Take(k, id) || s.Take(k, id) {
			t.Errorf("Take of %d", id)
		}
		m.take(k, id)
		wantAsked(t, s, m, fmt.Sprint("Take of ", id))
	}
	if s.Len() != 2 || s.Wanted(k) != 2 || len(s.Items(k)) != 0 || len(s.Items(far)) != len(ids) {
		t.Error("a memory from which all is gone:", s.Len(), s.Wanted(k), s.Items(k), s.Items(far))
	}
	wantPut(t, s, m, k, 50)
	wantAsked(t, s, m, "one again")
}

// state is a store in which each of a triple's eight keys isn't wanted, is, or is and has the id: by the digits of n to the base 3.
func state(t *testing.T, x api.Triple, id, n int) (*Store, *model) {
	s, m := New(), &model{}
	for _, k := range eight(x) {
		if n%3 > 0 {
			wantWant(t, s, m, k, nil)
			wantPut(t, s, m, k, id+1)
		}
		if n%3 > 1 {
			wantPut(t, s, m, k, id)
		}
		n /= 3
	}
	return s, m
}

// P12.1: Add and Remove in all states of the memories that a triple touches: each is wanted or not, and has the id or not; twice, and one behind the other.
func TestAddRemove(t *testing.T) {
	x := api.Triple{1, 2, 1}
	for n := range 6561 {
		f := api.Fact{Id: 1 + n%3, T: x}
		s, m := state(t, x, f.Id, n)
		wantAdd(t, s, m, f)
		if n%50 == 0 {
			wantAsked(t, s, m, fmt.Sprint("state ", n, ", Add"))
		}
		wantAdd(t, s, m, f)
		wantRemove(t, s, m, f)
		wantAsked(t, s, m, fmt.Sprint("state ", n, ", Add, Remove"))
		s, m = state(t, x, f.Id, n)
		wantRemove(t, s, m, f)
		wantAsked(t, s, m, fmt.Sprint("state ", n, ", Remove"))
		wantRemove(t, s, m, f)
	}
}

// P12.1: what Add and Remove tell, written out: where all, some and none of the memories have the id already.
func TestAddTells(t *testing.T) {
	whole, a, ab, c := api.Triple{}, api.Triple{1, 0, 0}, api.Triple{1, 2, 0}, api.Triple{0, 0, 3}
	f := api.Fact{Id: 8, T: api.Triple{1, 2, 3}}
	s := New()
	for _, k := range []api.Triple{c, ab, {0, 3, 0}, whole, a} {
		s.Want(k, nil)
	}
	s.Put(ab, 8)
	if got := s.Add(f); !slices.Equal(got, []api.Triple{whole, a, c}) {
		t.Error("some:", got)
	}
	if got := s.Add(f); len(got) != 0 {
		t.Error("all:", got)
	}
	if got := s.Add(api.Fact{Id: 9, T: f.T}); !slices.Equal(got, []api.Triple{whole, a, ab, c}) {
		t.Error("none:", got)
	}
	s.Take(a, 8)
	if got := s.Remove(f); !slices.Equal(got, []api.Triple{whole, ab, c}) {
		t.Error("some go:", got)
	}
	if got := s.Remove(f); len(got) != 0 {
		t.Error("none goes:", got)
	}
	if got := s.Remove(api.Fact{Id: 9, T: api.Triple{1, 3, 3}}); !slices.Equal(got, []api.Triple{whole, a, c}) {
		t.Error("another triple touches others:", got)
	}
	if l := s.Items(ab); !slices.Equal(l, []int{9}) {
		t.Error(l)
	}
}

// P12.1: Add and Remove at keys that are wanted more often than once tell each key once.
func TestAddOnce(t *testing.T) {
	x := api.Triple{1, 2, 1}
	s, m := wanting(t, nil, append(eight(x), eight(x)...)...)
	for id := 3; id > 0; id-- {
		wantAdd(t, s, m, api.Fact{Id: id, T: x})
		wantAdd(t, s, m, api.Fact{Id: id, T: x})
	}
	wantAsked(t, s, m, "added")
	for id := 1; id <= 3; id++ {
		wantRemove(t, s, m, api.Fact{Id: id, T: x})
		wantAsked(t, s, m, "one goes")
	}
}

// P12.1: Items rises in whatever order ids came, by whatever call, and is the same when it is called twice.
func TestItemsRise(t *testing.T) {
	r := rand.New(rand.NewSource(3))
	k := api.Triple{0, 2, 0}
	for _, n := range []int{1, 2, 3, 12, 13, 200, 1024} {
		s, m := New(), &model{}
		var early []api.Fact
		order := r.Perm(n)
		for _, id := range order[:n/3] {
			early = append(early, api.Fact{Id: id + 1, T: api.Triple{1, 2, 3}})
		}
		wantWant(t, s, m, k, early)
		for i, id := range order[n/3:] {
			if i%2 == 0 {
				wantPut(t, s, m, k, id+1)
			} else {
				wantAdd(t, s, m, api.Fact{Id: id + 1, T: api.Triple{1, 2, 3}})
			}
		}
		var want []int
		for id := range n {
			want = append(want, id+1)
		}
		if first, second := s.Items(k), s.Items(k); !slices.Equal(first, want) || !slices.Equal(second, want) {
			t.Fatal(n, first, second)
		}
		for _, id := range order[n/2:] {
			wantTake(t, s, m, k, id+1)
		}
		wantAsked(t, s, m, fmt.Sprint("half of ", n, " is gone"))
	}
}

// P12.1: what is answered may be changed without anything else changing, and changes behind no call.
func TestAnswersCopied(t *testing.T) {
	x := api.Triple{1, 2, 1}
	s, m := wanting(t, spread(), eight(x)...)
	first, second := s.Items(api.Triple{}), s.Items(api.Triple{})
	was := slices.Clone(second)
	for i := range first {
		first[i] = -1
	}
	_ = append(first[:0], 5, 6)
	if !slices.Equal(second, was) {
		t.Error("two answers share memory:", second)
	}
	wantAsked(t, s, m, "Items was changed")
	touched, other := s.Touched(x), s.Touched(x)
	told := s.Add(api.Fact{Id: 90, T: x})
	m.add(api.Fact{Id: 90, T: x})
	gone := s.Remove(api.Fact{Id: 90, T: x})
	for _, l := range [][]api.Triple{touched, told} {
		for i := range l {
			l[i] = api.Triple{2, 2, 2}
		}
		_ = append(l[:0], api.Triple{3, 3, 3})
	}
	m.remove(api.Fact{Id: 90, T: x})
	if !slices.Equal(other, eight(x)) || !slices.Equal(gone, eight(x)) || !slices.Equal(second, was) {
		t.Error("an answer changed:", other, gone, second)
	}
	wantAsked(t, s, m, "answers were changed")
}

// P12.1: what was handed in isn't written into, and may be changed behind the call without anything else changing.
func TestArgumentsCopied(t *testing.T) {
	s, m := New(), &model{}
	facts := spread()
	was := slices.Clone(facts)
	k := api.Triple{1, 0, 0}
	wantWant(t, s, m, k, facts[:len(facts):len(facts)])
	wantWant(t, s, m, api.Triple{}, facts[:3])
	if !slices.Equal(facts, was) {
		t.Error("written into:", facts)
	}
	for i := range facts {
		facts[i] = api.Fact{Id: 500 + i, T: api.Triple{2, 2, 2}}
	}
	k[0] = 2
	wantAsked(t, s, m, "facts were changed")
	f := api.Fact{Id: 30, T: api.Triple{1, 2, 1}}
	wantAdd(t, s, m, f)
	f.Id, f.T[0] = 31, 2
	wantAsked(t, s, m, "a fact was changed")
}

// P12.1: two stores know nothing of each other.
func TestTwo(t *testing.T) {
	a, am := New(), &model{}
	b, bm := New(), &model{}
	both := func(what string) {
		t.Helper()
		wantAsked(t, a, am, what+": the one")
		wantAsked(t, b, bm, what+": the other one")
	}
	both("new")
	facts := spread()
	k, x := api.Triple{1, 0, 0}, api.Triple{1, 2, 1}
	wantWant(t, a, am, k, facts)
	both("the one wants")
	wantDrop(t, b, bm, k)
	wantPut(t, b, bm, k, 1)
	both("the other one doesn't")
	wantWant(t, b, bm, k, facts[:2])
	wantWant(t, b, bm, api.Triple{}, facts)
	wantAdd(t, b, bm, api.Fact{Id: 70, T: x})
	both("the other one does")
	wantAdd(t, a, am, api.Fact{Id: 71, T: x})
	wantRemove(t, a, am, api.Fact{Id: 70, T: x})
	wantTake(t, b, bm, k, facts[0].Id)
	both("facts come and go")
	wantDrop(t, a, am, k)
	both("the one has nothing")
}

// P12.1: a store that New didn't make has no memories, and can be asked and filled as one that it made.
func TestWithoutNew(t *testing.T) {
	s, m := &Store{}, &model{}
	wantAsked(t, s, m, "without New")
	x := api.Triple{1, 2, 1}
	for _, k := range eight(x) {
		wantDrop(t, s, m, k)
		wantPut(t, s, m, k, 1)
		wantTake(t, s, m, k, 1)
	}
	wantAdd(t, s, m, api.Fact{Id: 1, T: x})
	wantRemove(t, s, m, api.Fact{Id: 1, T: x})
	wantWant(t, s, m, x, spread())
	wantAdd(t, s, m, api.Fact{Id: 50, T: x})
	wantAsked(t, s, m, "without New, filled")
}

// P12.1: of what the chapter leaves out nothing is promised but an end.
func TestEnds(t *testing.T) {
	s := New()
	var facts []api.Fact
	wrong := cube(0, -1, 4097, 1, math.MaxInt, math.MinInt)
	for i, x := range wrong {
		facts = append(facts, api.Fact{Id: -i, T: x})
	}
	for i, x := range wrong {
		s.Want(x, facts)
		s.Touched(x)
		s.Add(api.Fact{Id: i, T: x})
		s.Put(x, i)
		s.Take(x, -i)
		s.Items(x)
		s.Wanted(x)
		s.Remove(api.Fact{Id: i, T: x})
		s.Drop(x)
		s.Drop(x)
	}
}

// call is one of the calls that change a store.
type call struct {
	name  string
	k     api.Triple // or a fact's triple
	id    int
	facts []api.Fact
}

// do does a call to a store and its model.
func (c call) do(t *testing.T, s *Store, m *model) {
	t.Helper()
	f := api.Fact{Id: c.id, T: c.k}
	switch c.name {
	case "want":
		wantWant(t, s, m, c.k, c.facts)
	case "drop":
		wantDrop(t, s, m, c.k)
	case "put":
		wantPut(t, s, m, c.k, c.id)
	case "take":
		wantTake(t, s, m, c.k, c.id)
	case "add":
		wantAdd(t, s, m, f)
	case "remove":
		wantRemove(t, s, m, f)
	}
}

// fewCalls is calls of each name at two keys, of two ids and a triple that has both keys.
func fewCalls() []call {
	x := api.Triple{1, 2, 1}
	l := []call{{name: "add", k: x, id: 1}, {name: "remove", k: x, id: 1}, {name: "add", k: x, id: 2}, {name: "remove", k: api.Triple{2, 2, 2}, id: 2}}
	for _, k := range []api.Triple{{}, {1, 2, 0}} {
		l = append(l, call{name: "want", k: k, facts: []api.Fact{{Id: 1, T: x}, {Id: 3, T: api.Triple{2, 2, 2}}}}, call{name: "drop", k: k}, call{name: "put", k: k, id: 1}, call{name: "take", k: k, id: 1})
	}
	return l
}

// playAll does all rows of so many calls more to new stores, and holds each against its model.
func playAll(t *testing.T, l []call, more int) int {
	t.Helper()
	s, m := New(), &model{}
	for _, c := range l {
		c.do(t, s, m)
	}
	wantAsked(t, s, m, fmt.Sprint(l))
	if more == 0 {
		return 1
	}
	n := 0
	for _, c := range fewCalls() {
		n += playAll(t, append(slices.Clone(l), c), more-1)
	}
	return n
}

// P12.1: all rows of four calls, each by name at two keys.
func TestAllCalls(t *testing.T) {
	if n := playAll(t, nil, 4); n != 20736 {
		t.Error("only so many rows:", n)
	}
}

// anyCall is a call at random: at keys that are wanted and at others, with ids that are in and that aren't.
func anyCall(r *rand.Rand) call {
	names := []string{"want", "want", "drop", "put", "take", "add", "add", "add", "remove", "remove"}
	c := call{name: names[r.Intn(len(names))], id: r.Intn(9)}
	low := 0
	if c.name == "add" || c.name == "remove" {
		low = 1
	}
	for i := range c.k {
		c.k[i] = low + r.Intn(3-low)
	}
	_, triples := asked()
	for range r.Intn(6) {
		c.facts = append(c.facts, api.Fact{Id: r.Intn(9), T: triples[r.Intn(len(triples))]})
	}
	return c
}

// P12.1: random calls, held against the model behind each of them.
func TestRandom(t *testing.T) {
	for seed := range int64(60) {
		r := rand.New(rand.NewSource(seed))
		s, m := New(), &model{}
		for i := range 200 {
			anyCall(r).do(t, s, m)
			wantAsked(t, s, m, fmt.Sprint("seed ", seed, ", call ", i))
		}
	}
}

// wantFacts wants that each memory has just those facts that there are and that have its key, and that nothing else is there.
func wantFacts(t *testing.T, s *Store, wants map[api.Triple]int, facts map[int]api.Triple, what string) {
	t.Helper()
	if s.Len() != len(wants) {
		t.Fatalf("%s: Len is %d, want %d", what, s.Len(), len(wants))
	}
	keys, _ := asked()
	for _, k := range keys {
		var want []int
		for id, x := range facts {
			if wants[k] > 0 && fits(x, k) {
				want = append(want, id)
			}
		}
		slices.Sort(want)
		if got := s.Items(k); !slices.Equal(got, want) || s.Wanted(k) != wants[k] {
			t.Fatalf("%s: %v is wanted %d times and has %v, want %d, %v", what, k, s.Wanted(k), got, wants[k], want)
		}
	}
}

// world is the facts that there are, in no order that matters, each in by its id.
func world(r *rand.Rand, facts map[int]api.Triple) []api.Fact {
	var l []api.Fact
	for id, x := range facts {
		l = append(l, api.Fact{Id: id, T: x})
	}
	slices.SortFunc(l, func(a, b api.Fact) int { return a.Id - b.Id })
	r.Shuffle(len(l), func(i, j int) { l[i], l[j] = l[j], l[i] })
	return l
}

// P12.2: facts come and go, and keys of each kind are wanted ahead of them, among them and behind them, and dropped.
func TestFactsComeAndGo(t *testing.T) {
	keys, triples := asked()
	for seed := range int64(60) {
		r := rand.New(rand.NewSource(seed))
		s, facts, wants, last := New(), map[int]api.Triple{}, map[api.Triple]int{}, 0
		for i := range 150 {
			k, l := keys[r.Intn(len(keys))], world(r, facts)
			switch n := r.Intn(12); {
			case n < 5:
				last++
				facts[last] = triples[r.Intn(len(triples))]
				s.Add(api.Fact{Id: last, T: facts[last]})
			case n < 8 && len(l) > 0:
				delete(facts, l[0].Id)
				s.Remove(l[0])
			case n < 11:
				wants[k]++
				s.Want(k, l)
			case wants[k] > 0:
				s.Drop(k)
				wants[k]--
				if wants[k] == 0 {
					delete(wants, k)
				}
			}
			wantFacts(t, s, wants, facts, fmt.Sprint("seed ", seed, ", call ", i))
		}
	}
}

// P12.2: of facts that come in some order and go in another one, each key has the same, when it is wanted ahead of all, between any two, or behind all.
func TestEarlyAndLate(t *testing.T) {
	keys, _ := asked()
	all := spread()
	for when := range 2*len(all) + 1 {
		r := rand.New(rand.NewSource(int64(when)))
		come, leave := r.Perm(len(all)), r.Perm(len(all))
		s, facts, wants := New(), map[int]api.Triple{}, map[api.Triple]int{}
		for i := range 2*len(all) + 1 {
			if i == when {
				for _, k := range keys {
					s.Want(k, world(r, facts))
					wants[k] = 1
				}
			}
			wantFacts(t, s, wants, facts, fmt.Sprint("wanted ahead of ", when, ", now ", i))
			switch {
			case i < len(all):
				f := all[come[i]]
				facts[f.Id] = f.T
				s.Add(f)
			case i < 2*len(all):
				f := all[leave[i-len(all)]]
				delete(facts, f.Id)
				s.Remove(f)
			}
		}
	}
}

// P12.2: Add tells all the keys of a fact that is new, Remove all of one that there is.
func TestFactsTold(t *testing.T) {
	keys, _ := asked()
	s, m := wanting(t, nil, keys...)
	for _, f := range spread() {
		want := m.touched(f.T)
		if got := s.Add(f); !slices.Equal(got, want) {
			t.Errorf("Add(%v) is %v, want %v", f, got, want)
		}
	}
	for _, f := range spread() {
		want := m.touched(f.T)
		if got := s.Remove(f); !slices.Equal(got, want) {
			t.Errorf("Remove(%v) is %v, want %v", f, got, want)
		}
	}
	wantAsked(t, s, m, "all is gone")
}
