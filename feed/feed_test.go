package feed

import (
	"fmt"
	"math"
	"math/rand"
	"slices"
	"strings"
	"testing"
	"time"

	"retiary/api"
)

// came and gone are news of a match.
func came(rule string, ids ...int) News {
	return News{Came: true, M: api.Match{Rule: rule, Ids: ids}}
}

func gone(rule string, ids ...int) News {
	return News{M: api.Match{Rule: rule, Ids: ids}}
}

// nth is news for each number, all of them unlike.
func nth(n int) News {
	if n%3 == 0 {
		return gone("r", n)
	}
	return came("r", n, -n)
}

// shown is news as they are to be seen; no ids and an empty list of them are one.
func shown(n News) string { return fmt.Sprintf("%t %q%v", n.Came, n.M.Rule, n.M.Ids) }

// clone is the same news, sharing nothing with it, so that a test may keep what it sent.
func clone(n News) News {
	n.M.Ids = append([]int{}, n.M.Ids...)
	return n
}

// hears is the chapter's words on one listener: its room, what waits, and how many it lost.
type hears struct {
	room   int
	closed bool
	waits  []News
	lost   int
}

// model is the chapter's words, plainly: each listener that there ever was, that of the number 1 first.
type model struct{ all []*hears }

// there is a listener that there is, or none.
func (m *model) there(id int) *hears {
	for i, h := range m.all {
		if i+1 == id && !h.closed {
			return h
		}
	}
	return nil
}

func (m *model) count() int {
	n := 0
	for _, h := range m.all {
		if !h.closed {
			n++
		}
	}
	return n
}

func (m *model) open(room int) (int, api.Errno) {
	if room <= 0 || room >= 1001 {
		return 0, api.ErrArg
	}
	if m.count() == 16 {
		return 0, api.ErrBig
	}
	m.all = append(m.all, &hears{room: room})
	return len(m.all), api.OK
}

func (m *model) close(id int) api.Errno {
	h := m.there(id)
	if h == nil {
		return api.ErrNone
	}
	h.closed = true
	return api.OK
}

func (m *model) send(n News) int {
	have := 0
	for _, h := range m.all {
		if h.closed {
			continue
		}
		if len(h.waits) == h.room {
			h.lost++
			continue
		}
		h.waits = append(h.waits, clone(n))
		have++
	}
	return have
}

func (m *model) take(id int) (News, bool) {
	h := m.there(id)
	if h == nil || len(h.waits) == 0 {
		return News{}, false
	}
	first := h.waits[0]
	h.waits = h.waits[1:]
	return first, true
}

func (m *model) waits(id int) int {
	if h := m.there(id); h != nil {
		return len(h.waits)
	}
	return 0
}

func (m *model) lost(id int) int {
	if h := m.there(id); h != nil {
		return h.lost
	}
	return 0
}

// far is numbers that are never a listener's here.
func far() []int {
	return []int{0, -1, -2, -16, math.MinInt, math.MinInt + 1, -1 << 32, 1<<32 + 1, 1<<62 + 1, math.MaxInt}
}

// near is numbers that are asked for behind each call: those about all that were given, and such as are far away.
func (m *model) near() []int {
	l := far()
	for id := 1; id <= len(m.all)+2; id++ {
		l = append(l, id)
	}
	return l
}

// both is a feed beside its model.
type both struct {
	x *Feed
	m *model
}

// fresh is a new feed, with its model.
func fresh() *both { return &both{New(), &model{}} }

// opened is a feed with listeners that have these rooms.
func opened(t *testing.T, rooms ...int) *both {
	t.Helper()
	b := fresh()
	for i, room := range rooms {
		if id, e := b.open(t, room); id != i+1 || e != api.OK {
			t.Fatalf("Open(%d) is %d, error %d", room, id, e)
		}
	}
	return b
}

// wantAsked wants of all calls that ask for something what the model has.
func (b *both) wantAsked(t *testing.T, what string) {
	t.Helper()
	if got, want := b.x.Len(), b.m.count(); got != want {
		t.Fatalf("%s: Len is %d, want %d", what, got, want)
	}
	for _, id := range b.m.near() {
		if got, want := b.x.Waits(id), b.m.waits(id); got != want {
			t.Fatalf("%s: Waits(%d) is %d, want %d", what, id, got, want)
		}
		if got, want := b.x.Lost(id), b.m.lost(id); got != want {
			t.Fatalf("%s: Lost(%d) is %d, want %d", what, id, got, want)
		}
	}
}

// open, close, send and take do it to a feed and its model, and want that they answer alike.
func (b *both) open(t *testing.T, room int) (int, api.Errno) {
	t.Helper()
	id, e := b.x.Open(room)
	if want, we := b.m.open(room); id != want || e != we {
		t.Fatalf("Open(%d) is %d, error %d, want %d, error %d", room, id, e, want, we)
	}
	return id, e
}

func (b *both) close(t *testing.T, id int) {
	t.Helper()
	e := b.x.Close(id)
	if want := b.m.close(id); e != want {
		t.Fatalf("Close(%d) is error %d, want error %d", id, e, want)
	}
}

func (b *both) send(t *testing.T, n News) {
	t.Helper()
	got := b.x.Send(n)
	if want := b.m.send(n); got != want {
		t.Fatalf("Send(%.80s) is %d, want %d", shown(n), got, want)
	}
}

func (b *both) take(t *testing.T, id int) {
	t.Helper()
	n, ok := b.x.Take(id)
	if want, wok := b.m.take(id); shown(n) != shown(want) || ok != wok {
		t.Fatalf("Take(%d) is %.80s, %t, want %.80s, %t", id, shown(n), ok, shown(want), wok)
	}
	if !ok && n.M.Ids != nil {
		t.Fatalf("Take(%d) of nothing has a list", id)
	}
}

// drain takes all that waits for each listener, and once more.
func (b *both) drain(t *testing.T) {
	t.Helper()
	for _, id := range b.m.near() {
		for range b.m.waits(id) + 1 {
			b.take(t, id)
		}
	}
	b.wantAsked(t, "all is taken")
}

// wantNobody wants of a feed without listeners that it answers so, whatever is called.
func wantNobody(t *testing.T, x *Feed) {
	t.Helper()
	if x.Len() != 0 {
		t.Errorf("Len is %d", x.Len())
	}
	for range 2 {
		if n := x.Send(came("r", 1)); n != 0 {
			t.Errorf("Send to nobody is %d", n)
		}
		for _, id := range append(far(), 1, 2, 3, 16, 17) {
			wantNone(t, x, id)
		}
	}
}

// wantNone wants that there is no listener of a number.
func wantNone(t *testing.T, x *Feed, id int) {
	t.Helper()
	if x.Waits(id) != 0 || x.Lost(id) != 0 {
		t.Errorf("no listener %d: %d wait, %d are lost", id, x.Waits(id), x.Lost(id))
	}
	if n, ok := x.Take(id); ok || n.Came || n.M.Rule != "" || n.M.Ids != nil {
		t.Errorf("no listener %d: Take is %s, %t", id, shown(n), ok)
	}
	if e := x.Close(id); e != api.ErrNone {
		t.Errorf("no listener %d: Close is error %d", id, e)
	}
}

// P21.1: what the chapter's example says.
func TestExample(t *testing.T) {
	f := New()
	id, e := f.Open(1)
	if id != 1 || e != api.OK || f.Len() != 1 {
		t.Fatal(id, e, f.Len())
	}
	if a, b := f.Send(came("r", 1, 2)), f.Send(gone("s", 3)); a != 1 || b != 0 {
		t.Error(a, b)
	}
	if f.Waits(id) != 1 || f.Lost(id) != 1 {
		t.Error(f.Waits(id), f.Lost(id))
	}
	if n, ok := f.Take(id); !ok || shown(n) != `true "r"[1 2]` {
		t.Error(shown(n), ok)
	}
	if n, ok := f.Take(id); ok || shown(n) != `false ""[]` {
		t.Error(shown(n), ok)
	}
}

// P21.1: a new feed has no listeners; nothing waits, and nothing is lost.
func TestNew(t *testing.T) {
	wantNobody(t, New())
	b := fresh()
	b.wantAsked(t, "new")
	b.send(t, came("r"))
	b.wantAsked(t, "sent to nobody")
	b.open(t, 3)
	b.wantAsked(t, "what was sent ahead isn't there")
}

// P21.1: a feed that New didn't make has no listeners, and is as any other one.
func TestWithoutNew(t *testing.T) {
	wantNobody(t, &Feed{})
	b := &both{&Feed{}, &model{}}
	b.open(t, 0)
	b.close(t, 1)
	b.open(t, 2)
	b.open(t, 1)
	for i := range 3 {
		b.send(t, nth(i))
		b.wantAsked(t, "without New")
	}
	b.drain(t)
	b.close(t, 1)
	b.wantAsked(t, "without New, one is gone")
}

// P21.1: each room from 1 to 1000 is given: so many news wait, and the next one is lost.
func TestEachRoom(t *testing.T) {
	for room := 1; room <= 1000; room++ {
		f := New()
		if id, e := f.Open(room); id != 1 || e != api.OK {
			t.Fatalf("Open(%d) is %d, error %d", room, id, e)
		}
		for i := range room {
			if n := f.Send(gone("r")); n != 1 || f.Waits(1) != i+1 || f.Lost(1) != 0 {
				t.Fatalf("room %d, news %d: %d, %d wait, %d are lost", room, i, n, f.Waits(1), f.Lost(1))
			}
		}
		for i := range 2 {
			if n := f.Send(came("r")); n != 0 || f.Waits(1) != room || f.Lost(1) != i+1 {
				t.Fatalf("room %d, full: %d, %d wait, %d are lost", room, n, f.Waits(1), f.Lost(1))
			}
		}
	}
}

// wrongRooms is rooms that there aren't.
func wrongRooms() []int {
	return []int{0, -1, -2, -1000, 1001, 1002, 1024, 2000, 4096, 1 << 31, 1 << 32, 1<<32 + 1, 1<<48 + 500, 1<<62 + 1, math.MaxInt - 1, math.MaxInt, math.MinInt, math.MinInt + 1, -1 << 32, -1<<32 + 1}
}

// P21.1: any other room is ErrArg, with any number of listeners, 16 among them, and changes nothing, the next number among it.
func TestOpenArg(t *testing.T) {
	for _, n := range []int{0, 1, 2, 15, 16} {
		b := fresh()
		for range n {
			b.open(t, 1)
		}
		b.send(t, nth(1))
		for _, room := range wrongRooms() {
			if id, e := b.x.Open(room); id != 0 || e != api.ErrArg {
				t.Errorf("%d listeners: Open(%d) is %d, error %d", n, room, id, e)
			}
			b.wantAsked(t, fmt.Sprint("refused room ", room))
		}
		if n == 16 {
			b.close(t, 1)
		}
		b.open(t, 1000)
		b.wantAsked(t, "a right one")
		b.drain(t)
	}
}

// P21.1: a seventeenth listener is ErrBig, whatever its room, and changes nothing; once one of the 16 is closed, whichever, there is one more.
func TestOpenBig(t *testing.T) {
	for which := 1; which <= 16; which++ {
		b := fresh()
		for i := range 16 {
			b.open(t, 1+i%2)
			b.wantAsked(t, "one more")
		}
		b.send(t, nth(1))
		for _, room := range []int{1, 2, 999, 1000} {
			if id, e := b.x.Open(room); id != 0 || e != api.ErrBig {
				t.Errorf("Open(%d) of a seventeenth is %d, error %d", room, id, e)
			}
			b.wantAsked(t, "refused")
		}
		b.close(t, which)
		b.wantAsked(t, "one is gone")
		if id, e := b.open(t, 3); id != 17 || e != api.OK {
			t.Errorf("Open behind Close(%d) is %d, error %d", which, id, e)
		}
		if id, e := b.open(t, 1); id != 0 || e != api.ErrBig {
			t.Errorf("Open behind it is %d, error %d", id, e)
		}
		b.send(t, nth(2))
		b.wantAsked(t, "16 again")
		b.drain(t)
	}
}

// P21.1: numbers rise by one, from 1 on; none is used again, whichever were closed, and refused calls take none.
func TestNumbers(t *testing.T) {
	f := New()
	r := rand.New(rand.NewSource(1))
	var there []int
	for want := 1; want <= 3000; want++ {
		f.Open(0)
		f.Open(1001)
		if id, e := f.Open(1 + want%5); id != want || e != api.OK {
			t.Fatalf("Open is %d, error %d, want %d", id, e, want)
		}
		there = append(there, want)
		if len(there) == 16 {
			f.Open(1)
		}
		for len(there) == 16 || len(there) > 0 && r.Intn(2) == 0 {
			at := r.Intn(len(there))
			if e := f.Close(there[at]); e != api.OK {
				t.Fatalf("Close(%d) is error %d", there[at], e)
			}
			there = slices.Delete(there, at, at+1)
		}
		if f.Len() != len(there) {
			t.Fatalf("Len is %d, want %d", f.Len(), len(there))
		}
	}
}

// P21.1: of a feed whose last listener is gone, and of one from which all are, the next number is one that never was.
func TestNumbersBehindClose(t *testing.T) {
	b := opened(t, 1, 1, 1)
	b.close(t, 3)
	if id, _ := b.open(t, 1); id != 4 {
		t.Error("behind the last one:", id)
	}
	for _, id := range []int{4, 1, 2} {
		b.close(t, id)
		b.wantAsked(t, fmt.Sprint("Close of ", id))
	}
	if id, _ := b.open(t, 1); id != 5 {
		t.Error("behind all of them:", id)
	}
	b.wantAsked(t, "one again")
}

// P21.1: Close of numbers that there never were, and of closed ones, is ErrNone, and changes nothing.
func TestCloseNone(t *testing.T) {
	b := opened(t, 2, 1, 3)
	b.send(t, nth(1))
	b.send(t, nth(2))
	b.close(t, 2)
	for _, id := range append(far(), 2, 4, 5, 16, 17) {
		for range 2 {
			if e := b.x.Close(id); e != api.ErrNone {
				t.Errorf("Close(%d) is error %d", id, e)
			}
			b.wantAsked(t, fmt.Sprint("refused ", id))
		}
	}
	if id, _ := b.open(t, 1); id != 4 {
		t.Error("the next number:", id)
	}
	b.drain(t)
}

// P21.1: what is closed, with news that wait and with lost ones, is gone with both, and takes nothing; the others have what they had.
func TestCloseWithNews(t *testing.T) {
	for id := 1; id <= 4; id++ {
		b := opened(t, 1, 3, 2, 1000)
		for i := range 3 {
			b.send(t, nth(i))
		}
		b.close(t, id)
		wantNone(t, b.x, id)
		b.wantAsked(t, fmt.Sprint("Close of ", id))
		b.send(t, nth(7))
		wantNone(t, b.x, id)
		b.wantAsked(t, fmt.Sprint("sent behind Close of ", id))
		if next, _ := b.open(t, 2); next != 5 || b.x.Waits(5) != 0 || b.x.Lost(5) != 0 {
			t.Error("one more:", next, b.x.Waits(5), b.x.Lost(5))
		}
		b.send(t, nth(8))
		wantNone(t, b.x, id)
		b.wantAsked(t, "sent to one more")
		b.drain(t)
	}
}

// P21.1: all are closed, with news or without: nobody is there, and what is sent goes nowhere.
func TestCloseAll(t *testing.T) {
	for _, news := range []int{0, 1, 5} {
		b := opened(t, 1, 2, 3)
		for i := range news {
			b.send(t, nth(i))
		}
		for _, id := range []int{2, 3, 1} {
			b.close(t, id)
			b.wantAsked(t, fmt.Sprint("Close of ", id))
		}
		wantNobody(t, b.x)
	}
}

// P21.1: Send to one and to several, whose rooms aren't alike: those that have room have it, the full ones lose it and aren't counted.
func TestSend(t *testing.T) {
	f := opened(t, 2, 1, 4).x
	for i, want := range []struct{ have, wait1, lost1, wait2, lost2, wait3, lost3 int }{
		{3, 1, 0, 1, 0, 1, 0},
		{2, 2, 0, 1, 1, 2, 0},
		{1, 2, 1, 1, 2, 3, 0},
		{1, 2, 2, 1, 3, 4, 0},
		{0, 2, 3, 1, 4, 4, 1},
		{0, 2, 4, 1, 5, 4, 2},
	} {
		have := f.Send(nth(i))
		got := fmt.Sprint(have, f.Waits(1), f.Lost(1), f.Waits(2), f.Lost(2), f.Waits(3), f.Lost(3))
		if got != strings.Trim(fmt.Sprint(want), "{}") {
			t.Errorf("behind Send %d: %s, want %v", i, got, want)
		}
	}
	one := opened(t, 1).x
	if a, b := one.Send(nth(1)), one.Send(nth(2)); a != 1 || b != 0 {
		t.Error("to one:", a, b)
	}
}

// P21.1: with each number of listeners, each choice of them full: the number told is that of those that aren't, and none else loses anything.
func TestSendSomeFull(t *testing.T) {
	for n := range 9 {
		for full := range 1 << n {
			b := fresh()
			for i := range n {
				b.open(t, 1+1&^(full>>i))
			}
			b.send(t, nth(1))
			have := 0
			for i := range n {
				have += 1 &^ (full >> i)
			}
			if got := b.x.Send(nth(2)); got != have || b.m.send(nth(2)) != have {
				t.Fatalf("%d listeners, %b of them full: Send is %d, want %d", n, full, got, have)
			}
			b.wantAsked(t, fmt.Sprintf("%d listeners, %b of them full", n, full))
		}
	}
}

// P21.1: 16 listeners have what is sent, each by itself.
func TestSendToAll(t *testing.T) {
	b := fresh()
	for i := range 16 {
		b.open(t, 1+i)
	}
	for i := range 18 {
		if got, want := b.x.Send(nth(i)), max(16-i, 0); got != want || b.m.send(nth(i)) != want {
			t.Errorf("Send %d is %d, want %d", i, got, want)
		}
		b.wantAsked(t, fmt.Sprint("Send ", i))
	}
	b.drain(t)
}

// P21.1: Take answers what waits in the order in which it was sent, all kinds of it, however much there is, and then nothing.
func TestTake(t *testing.T) {
	for _, n := range []int{1, 2, 3, 10, 999, 1000} {
		b := opened(t, n, 1000)
		for i := range n {
			b.send(t, nth(i))
		}
		for i := range n {
			if got, ok := b.x.Take(1); !ok || shown(got) != shown(nth(i)) {
				t.Fatalf("of %d news, Take %d is %s, %t", n, i, shown(got), ok)
			}
			b.m.take(1)
			b.wantAsked(t, fmt.Sprintf("of %d news, Take %d", n, i))
		}
		for range 3 {
			if got, ok := b.x.Take(1); ok || shown(got) != shown(News{}) || got.M.Ids != nil {
				t.Errorf("all of %d news are taken: %s, %t", n, shown(got), ok)
			}
			b.wantAsked(t, "nothing waits")
		}
		b.drain(t)
	}
}

// P21.1: behind a taking there is room for one more, which stands last; what was lost stays lost.
func TestTakeMakesRoom(t *testing.T) {
	for _, room := range []int{1, 2, 3, 7} {
		b := opened(t, room, room+1)
		for i := range room + 2 {
			b.send(t, nth(i))
		}
		for i := range 4 * room {
			b.take(t, 1)
			if b.x.Lost(1) != 2+i {
				t.Fatalf("room %d: %d are lost, want %d", room, b.x.Lost(1), 2+i)
			}
			b.send(t, nth(100+i))
			b.send(t, nth(200+i))
			b.wantAsked(t, fmt.Sprintf("room %d, taking %d", room, i))
		}
		b.drain(t)
	}
}

// P21.1: Take by numbers that are no listener's answers nothing, and changes nothing.
func TestTakeNone(t *testing.T) {
	b := opened(t, 2, 2, 2)
	b.send(t, nth(1))
	b.close(t, 2)
	for _, id := range append(far(), 2, 4, 5, 16, 17) {
		b.take(t, id)
		b.wantAsked(t, fmt.Sprint("Take of ", id))
	}
	b.drain(t)
}

// P21.1: what one listener takes, another one that has it has still, and each begins with what was sent behind its Open.
func TestTakeEach(t *testing.T) {
	b := opened(t, 5)
	b.send(t, nth(1))
	b.open(t, 5)
	b.send(t, nth(2))
	b.take(t, 1)
	b.take(t, 1)
	b.wantAsked(t, "the first one took two")
	if n, ok := b.x.Take(2); !ok || shown(n) != shown(nth(2)) {
		t.Error(shown(n), ok)
	}
	b.m.take(2)
	b.wantAsked(t, "the second one took one")
	b.drain(t)
}

// kinds is news of both kinds, with any names and ids.
func kinds() []News {
	many := make([]int, 5000)
	for i := range many {
		many[i] = i*i - 4000
	}
	var l []News
	for _, rule := range []string{"", "r", "a-b_C9", "o n", " ", "\x00", "\n", "\xff\xfe", "ä\u2603", strings.Repeat("r", 32), strings.Repeat("r", 33), strings.Repeat("long ", 10000)} {
		for _, ids := range [][]int{nil, {}, {1}, {0}, {-1}, {1, 1, 1}, {3, 2, 1}, {math.MinInt, -7, 0, math.MaxInt}, many} {
			l = append(l, came(rule, ids...), gone(rule, ids...))
		}
	}
	return l
}

// P21.1: news of both kinds, with any names and ids, come as they were sent, to each listener.
func TestKinds(t *testing.T) {
	l := kinds()
	b := opened(t, len(l), 1000)
	for _, n := range l {
		b.send(t, n)
	}
	for _, want := range l {
		for id := 1; id <= 2; id++ {
			if n, ok := b.x.Take(id); !ok || shown(n) != shown(want) {
				t.Fatalf("listener %d: %.80s, %t, want %.80s", id, shown(n), ok, shown(want))
			}
		}
	}
}

// spoil changes all that a list of ids has, and all that stands behind it in its memory.
func spoil(ids []int) {
	for i := range ids[:cap(ids)] {
		ids[:cap(ids)][i] = -99
	}
}

// P21.1: what was sent, and is changed behind, changes nothing of what waits, for whomever.
func TestSentIsCopied(t *testing.T) {
	b := opened(t, 3, 1, 2)
	ids := make([]int, 4, 9)
	n := News{Came: true, M: api.Match{Rule: "r", Ids: ids}}
	for i := range 4 {
		copy(ids, []int{i, i + 1, i + 2, i + 3})
		n.Came = !n.Came
		n.M.Ids = ids[:i+1]
		b.send(t, n)
		spoil(n.M.Ids)
		n.M.Rule = "other"
	}
	b.wantAsked(t, "changed")
	b.drain(t)
}

// P21.1: what is sent isn't written into, nor is what stands behind it in its memory, not even by whoever takes it.
func TestSentIsLeft(t *testing.T) {
	row := []int{1, 2, 3, 4, 5, 6}
	f := opened(t, 3, 1, 2).x
	for range 3 {
		f.Send(came("r", row[1:3]...))
		for id := 1; id <= 3; id++ {
			n, ok := f.Take(id)
			if !ok {
				t.Fatal("nothing waits for", id)
			}
			spoil(n.M.Ids)
			_ = append(n.M.Ids, -7)
		}
	}
	if !slices.Equal(row, []int{1, 2, 3, 4, 5, 6}) {
		t.Error(row)
	}
}

// P21.1: what one listener took, and changed, changes nothing of what another one takes, nor of what else waits for it.
func TestTakenIsCopied(t *testing.T) {
	for first := 1; first <= 3; first++ {
		b := opened(t, 4, 4, 4)
		n := came("r", 1, 2, 3, 4, 5)
		for range 2 {
			b.send(t, n)
			b.send(t, gone("s"))
		}
		for i := range 3 {
			id := 1 + (first+i)%3
			got, ok := b.x.Take(id)
			if !ok || shown(got) != shown(n) {
				t.Fatalf("listener %d has %s, %t", id, shown(got), ok)
			}
			b.m.take(id)
			spoil(got.M.Ids)
			_ = append(got.M.Ids, 8)
			got.M.Rule = "other"
		}
		b.wantAsked(t, "changed")
		b.drain(t)
	}
}

// P21.1: two feeds know nothing of each other.
func TestTwoFeeds(t *testing.T) {
	a, b := fresh(), fresh()
	asked := func(what string) {
		t.Helper()
		a.wantAsked(t, what+": the one")
		b.wantAsked(t, what+": the other one")
	}
	a.open(t, 2)
	asked("one has a listener")
	b.open(t, 1)
	b.open(t, 3)
	a.send(t, nth(1))
	asked("sent to the one")
	for i := range 3 {
		b.send(t, nth(i))
		asked("sent to the other one")
	}
	b.take(t, 1)
	asked("taken from the other one")
	a.close(t, 1)
	asked("one has none")
	a.open(t, 1)
	asked("one has one again")
	a.drain(t)
	b.drain(t)
}

// within wants that calls come back, all together in a minute: far more than they need, if nobody holds them up.
func within(t *testing.T, what string, calls func()) {
	t.Helper()
	done := make(chan bool)
	go func() {
		defer close(done)
		calls()
	}()
	select {
	case <-done:
	case <-time.After(time.Minute):
		t.Fatalf("%s: held up", what)
	}
}

// P21.2: each call of a listener with nothing that waits, of a full one, and of none comes back.
func TestNobodyWaits(t *testing.T) {
	for _, room := range []int{1, 2, 1000} {
		f := New()
		within(t, fmt.Sprint("none, room ", room), func() { f.Send(nth(1)); f.Take(1); f.Close(1); f.Open(room) })
		within(t, fmt.Sprint("nothing waits, room ", room), func() { f.Take(1); f.Waits(1); f.Lost(1) })
		within(t, fmt.Sprint("filled, room ", room), func() {
			for i := range room {
				f.Send(nth(i))
			}
		})
		for range 3 {
			within(t, fmt.Sprint("full, room ", room), func() { f.Send(nth(2)); f.Waits(1); f.Lost(1); f.Len() })
		}
		if f.Waits(1) != room || f.Lost(1) != 3 {
			t.Errorf("room %d: %d wait, %d are lost", room, f.Waits(1), f.Lost(1))
		}
		within(t, fmt.Sprint("one more, room ", room), func() { f.Open(1); f.Send(nth(3)); f.Take(2); f.Take(2) })
		within(t, fmt.Sprint("closed, room ", room), func() { f.Close(1); f.Take(1); f.Send(nth(4)); f.Send(nth(5)) })
		if f.Waits(2) != 1 || f.Lost(2) != 1 || f.Lost(1) != 0 {
			t.Errorf("room %d: %d wait, %d are lost, of the closed one %d", room, f.Waits(2), f.Lost(2), f.Lost(1))
		}
	}
}

// P21.2: many more news than there is room for, with listeners that never take among others that do: these have all of it, and those what came first.
func TestIdleHoldsNobodyUp(t *testing.T) {
	const news = 20000
	f := opened(t, 1, 1, 7, 3, 1000).x
	within(t, "an idle one among others", func() {
		for i := range news {
			want := 2 // the busy ones, 2 and 4
			for _, room := range []int{1, 7, 1000} {
				if i < room {
					want++
				}
			}
			if have := f.Send(nth(i)); have != want {
				t.Errorf("Send %d is %d, want %d", i, have, want)
				return
			}
			for _, id := range []int{4, 2} {
				if n, ok := f.Take(id); !ok || shown(n) != shown(nth(i)) {
					t.Errorf("listener %d, news %d: %s, %t", id, i, shown(n), ok)
					return
				}
			}
		}
	})
	for id, room := range map[int]int{1: 1, 3: 7, 5: 1000} {
		if f.Waits(id) != room || f.Lost(id) != news-room {
			t.Errorf("listener %d: %d wait, %d are lost", id, f.Waits(id), f.Lost(id))
		}
		for i := range room {
			if n, ok := f.Take(id); !ok || shown(n) != shown(nth(i)) {
				t.Fatalf("listener %d, taking %d: %s, %t", id, i, shown(n), ok)
			}
		}
	}
	if f.Waits(2)+f.Lost(2)+f.Waits(4)+f.Lost(4) != 0 {
		t.Error("the busy ones:", f.Waits(2), f.Lost(2), f.Waits(4), f.Lost(4))
	}
}

// P21.2: 16 full listeners, and none of them takes: each call comes back, and each one has lost as many.
func TestAllIdle(t *testing.T) {
	f := New()
	within(t, "all idle", func() {
		for range 16 {
			f.Open(2)
		}
		for i := range 5000 {
			f.Send(nth(i))
		}
		f.Open(1)
	})
	for id := 1; id <= 16; id++ {
		if f.Waits(id) != 2 || f.Lost(id) != 4998 {
			t.Errorf("listener %d: %d wait, %d are lost", id, f.Waits(id), f.Lost(id))
		}
	}
}

// call is one of the calls that change a feed: with a room, a listener's number, or the number of news.
type call struct {
	what byte
	n    int
}

// do does a call to a feed and its model.
func (c call) do(t *testing.T, b *both) {
	t.Helper()
	switch c.what {
	case 'o':
		b.open(t, c.n)
	case 'c':
		b.close(t, c.n)
	case 's':
		b.send(t, nth(c.n))
	case 't':
		b.take(t, c.n)
	}
}

// playAll does all rows of so many calls more to new feeds, and holds each against its model.
func playAll(t *testing.T, l []call, more int) int {
	t.Helper()
	b := fresh()
	for _, c := range l {
		c.do(t, b)
	}
	b.wantAsked(t, fmt.Sprint(l))
	if more == 0 {
		b.drain(t)
		return 1
	}
	rows := 0
	for _, c := range []call{{'o', 1}, {'o', 2}, {'o', 0}, {'c', 1}, {'c', 2}, {'s', 1}, {'s', 3}, {'t', 1}, {'t', 2}} {
		rows += playAll(t, append(slices.Clone(l), c), more-1)
	}
	return rows
}

// P21.1: all rows of five calls: two rooms and a wrong one, two numbers to close and to take, news of each kind; each row begins with one listener, or with none.
func TestAllCalls(t *testing.T) {
	rows := playAll(t, nil, 5) + playAll(t, []call{{'o', 1}, {'o', 2}, {'s', 2}}, 4)
	if rows != 59049+6561 {
		t.Error("only so many rows:", rows)
	}
}

// anyId is mostly the number of a listener that there is, else of one that was, or never was.
func anyId(r *rand.Rand, m *model) int {
	var there []int
	for id := range len(m.all) + 1 {
		if m.there(id) != nil {
			there = append(there, id)
		}
	}
	switch n := r.Intn(10); {
	case n < 8 && len(there) > 0:
		return there[r.Intn(len(there))]
	case n < 9:
		return r.Intn(len(m.all)+3) - 1
	}
	return int(r.Uint64())
}

// anyRoom is mostly a small room, else any other one, or none.
func anyRoom(r *rand.Rand) int {
	switch n := r.Intn(12); {
	case n < 9:
		return 1 + r.Intn(5)
	case n < 11:
		return 1 + r.Intn(1000)
	}
	return wrongRooms()[r.Intn(len(wrongRooms()))]
}

// anyCall is a call at random; news are more often sent than taken, so that some listeners are full.
func anyCall(r *rand.Rand, m *model, opens int) call {
	switch n := r.Intn(100); {
	case n < opens:
		return call{'o', anyRoom(r)}
	case n < 15:
		return call{'c', anyId(r, m)}
	case n < 60:
		return call{'s', r.Intn(1000)}
	}
	return call{'t', anyId(r, m)}
}

// P21.1: random calls, held against the model behind each of them, with few listeners and with as many as may be.
func TestRandom(t *testing.T) {
	most := 0
	for seed := range int64(60) {
		r := rand.New(rand.NewSource(seed))
		b := fresh()
		for i := range 300 {
			anyCall(r, b.m, 5+int(seed%10)).do(t, b)
			b.wantAsked(t, fmt.Sprint("seed ", seed, ", call ", i))
			most = max(most, b.x.Len())
		}
		b.drain(t)
	}
	if most != 16 {
		t.Error("the most listeners that there were:", most)
	}
}
