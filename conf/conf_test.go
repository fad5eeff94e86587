package conf

import (
	"fmt"
	"math"
	"math/rand"
	"slices"
	"strings"
	"testing"

	"retiary/api"
)

// m is a match.
func m(rule string, ids ...int) api.Match { return api.Match{Rule: rule, Ids: ids} }

// shown is a match, and matches, as they are to be seen; no ids and an empty list of them are one.
func shown(x api.Match) string { return fmt.Sprintf("%q%v", x.Rule, x.Ids) }

func shownAll(l []api.Match) string {
	var all []string
	for _, x := range l {
		all = append(all, shown(x))
	}
	return strings.Join(all, "; ")
}

// wantList wants that matches are these, one by one.
func wantList(t *testing.T, what string, got, want []api.Match) {
	t.Helper()
	if shownAll(got) != shownAll(want) {
		t.Fatalf("%s: %.300s; wanted %.300s", what, shownAll(got), shownAll(want))
	}
}

// modelCompare is the chapter's words, byte by byte and number by number.
func modelCompare(a, b api.Match) int {
	for i := 0; i < len(a.Rule) && i < len(b.Rule); i++ {
		if a.Rule[i] != b.Rule[i] {
			return lower(a.Rule[i] < b.Rule[i])
		}
	}
	if len(a.Rule) != len(b.Rule) {
		return lower(len(a.Rule) < len(b.Rule))
	}
	for i := 0; i < len(a.Ids) && i < len(b.Ids); i++ {
		if a.Ids[i] != b.Ids[i] {
			return lower(a.Ids[i] < b.Ids[i])
		}
	}
	if len(a.Ids) != len(b.Ids) {
		return lower(len(a.Ids) < len(b.Ids))
	}
	return 0
}

// lower is -1 where the first one is the lesser one, else 1.
func lower(first bool) int {
	if first {
		return -1
	}
	return 1
}

// modelHas tells whether one of the matches is alike.
func modelHas(l []api.Match, x api.Match) bool {
	for _, y := range l {
		if modelCompare(x, y) == 0 {
			return true
		}
	}
	return false
}

// modelSort puts each match that isn't there yet ahead of the first greater one.
func modelSort(l []api.Match) []api.Match {
	var row []api.Match
	for _, x := range l {
		at := 0
		for at < len(row) && modelCompare(row[at], x) < 0 {
			at++
		}
		if !modelHas(row, x) {
			row = slices.Insert(row, at, x)
		}
	}
	return row
}

// modelLess is the matches of a list that aren't in another one, sorted.
func modelLess(l, other []api.Match) []api.Match {
	var rest []api.Match
	for _, x := range modelSort(l) {
		if !modelHas(other, x) {
			rest = append(rest, x)
		}
	}
	return rest
}

func modelSame(a, b []api.Match) bool {
	if len(a) != len(b) {
		return false
	}
	for i := range a {
		if modelCompare(a[i], b[i]) != 0 {
			return false
		}
	}
	return true
}

// modelName tells whether a name is right, by its bytes.
func modelName(name string) bool {
	const signs = "abcdefghijklmnopqrstuvwxyzABCDEFGHIJKLMNOPQRSTUVWXYZ0123456789-_"
	for i := 0; i < len(name); i++ {
		if strings.IndexByte(signs, name[i]) < 0 {
			return false
		}
	}
	return len(name) >= 1 && len(name) <= 32
}

// digits is a number from 0 on as decimal digits, reckoned here, so that the tests hold the program against the document alone.
func digits(n int) string {
	s := string(rune('0' + n%10))
	if n >= 10 {
		return digits(n/10) + s
	}
	return s
}

func modelText(x api.Match) (string, api.Errno) {
	if !modelName(x.Rule) {
		return "", api.ErrName
	}
	text := x.Rule
	for _, id := range x.Ids {
		if id < 1 || id > 999999999 {
			return "", api.ErrArg
		}
		text += "\x20" + digits(id)
	}
	return text, api.OK
}

// modelParse reads a text byte by byte: a name, and behind each blank a digit that is no nought, and up to eight digits more.
func modelParse(s string) (api.Match, api.Errno) {
	end := strings.IndexByte(s+" ", ' ')
	x := api.Match{Rule: s[:end]}
	if !modelName(x.Rule) {
		return api.Match{}, api.ErrForm
	}
	for i := end; i < len(s); {
		i++
		begin, id := i, 0
		for i < len(s) && i < begin+9 && (s[i] >= '1' && s[i] <= '9' || s[i] == '0' && i > begin) {
			id = id*10 + int(s[i]-'0')
			i++
		}
		if i == begin || i < len(s) && s[i] != ' ' {
			return api.Match{}, api.ErrForm
		}
		x.Ids = append(x.Ids, id)
	}
	return x, api.OK
}

// wantCompare wants how two matches compare, and the same with the two turned.
func wantCompare(t *testing.T, a, b api.Match, want int) {
	t.Helper()
	if got := Compare(a, b); got != want {
		t.Errorf("Compare(%.60s, %.60s) is %d, want %d", shown(a), shown(b), got, want)
	}
	if got := Compare(b, a); got != -want {
		t.Errorf("Compare(%.60s, %.60s) is %d, want %d", shown(b), shown(a), got, -want)
	}
}

// wantRising wants of matches that rise, each held against each, and against itself, how they compare.
func wantRising(t *testing.T, l []api.Match) {
	t.Helper()
	for i, a := range l {
		for j, b := range l {
			want := 0
			if i != j {
				want = lower(i < j)
			}
			wantCompare(t, a, b, want)
		}
	}
}

// risingNames is names by bytes, right ones and such as aren't.
func risingNames() []string {
	return []string{
		"", "\x00", "\x00\x00", " ", "-", "--", "-a", "0", "00", "1", "10", "100", "11", "2", "20", "9",
		"A", "AA", "Aa", "B", "Ba", "Z", "ZZZ", "_", "__", "a", "a\x00", "a ", "a-", "a-a", "a0", "aA", "aB", "a_", "aa", "aaa", "aab", "ab", "a\x7f", "aä", "a\xff", "b", "ba", "c",
		strings.Repeat("r", 31), strings.Repeat("r", 32), strings.Repeat("r", 33), strings.Repeat("r", 31) + "s", "z", "zz", "\x7f", "\x80", "ä", "ö", "\u2603", "\uffff", "\U0001f600", "\xff", "\xff\xff",
	}
}

// risingIds is lists of ids that rise: the first number that differs counts, and of two that begin alike the shorter one is the lesser.
func risingIds() [][]int {
	const low, high = math.MinInt, math.MaxInt
	return [][]int{
		nil,
		{low}, {low, low}, {low, -1}, {low, 0}, {low, high}, {low, high, high},
		{low + 1}, {-1 << 32}, {-10}, {-9}, {-2}, {-1}, {-1, -1}, {-1, 0}, {-1, 1},
		{0}, {0, low}, {0, -1}, {0, 0}, {0, 0, 0}, {0, 1}, {0, high},
		{1}, {1, low, high}, {1, -2}, {1, 0}, {1, 1}, {1, 1, 1}, {1, 1, 1, 1}, {1, 1, 2}, {1, 2}, {1, 2, 3}, {1, 9}, {1, 9, 9, 9}, {1, 10}, {1, 10, 1}, {1, 100},
		{2}, {2, 1}, {2, 2}, {2, 10}, {9}, {9, 9}, {10}, {10, 1}, {10, 2}, {11}, {20}, {99}, {100}, {101}, {255}, {256}, {257},
		{65535}, {65536}, {999999999}, {1000000000}, {1<<31 - 1}, {1 << 31}, {1<<32 - 1}, {1 << 32}, {1<<32 + 1}, {1 << 53}, {1<<53 + 1}, {1 << 62},
		{high - 1}, {high - 1, high}, {high}, {high, low}, {high, high - 1}, {high, high}, {high, high, low},
	}
}

// P20.1: other rules: by bytes, whatever the ids.
func TestCompareRules(t *testing.T) {
	wantCompare(t, m("B", 9), m("a", 1), -1)
	wantCompare(t, m("a", 9), m("ab", 1), -1)
	wantCompare(t, m("", 9), m("a", 1), -1)
	wantCompare(t, m("", 9), m("\x00", 1), -1)
	wantCompare(t, m("r10"), m("r2"), -1)
	var same, fall, longer []api.Match
	for i, name := range risingNames() {
		same = append(same, m(name, 7, 7))
		fall = append(fall, m(name, -i))
		longer = append(longer, m(name, make([]int, 100-i)...))
	}
	wantRising(t, same)
	wantRising(t, fall)
	wantRising(t, longer)
}

// P20.1: one rule, other ids.
func TestCompareIds(t *testing.T) {
	wantCompare(t, m("a", 2), m("a", 10), -1)
	wantCompare(t, m("a", 1, 2), m("a", 1, 10), -1)
	wantCompare(t, m("a", 1), m("a", 1, 1), -1)
	wantCompare(t, m("a", 2), m("a", 1, 1), 1)
	wantCompare(t, m("a", math.MinInt), m("a", math.MaxInt), -1)
	for _, name := range []string{"", "a", "Rule-1", "\xff"} {
		var l []api.Match
		for _, ids := range risingIds() {
			l = append(l, api.Match{Rule: name, Ids: ids})
		}
		wantRising(t, l)
	}
}

// P20.1: long lists of ids that differ at one place alone, or in their length.
func TestCompareLong(t *testing.T) {
	const n = 1000
	for at := range n {
		a, b := make([]int, n), make([]int, n)
		b[at] = 1
		if at+1 < n {
			a[at+1] = 2
		}
		wantCompare(t, m("r", a...), m("r", b...), -1)
		wantCompare(t, m("r", a[:at]...), m("r", a...), -1)
		wantCompare(t, m("r", a...), m("r", slices.Clone(a)...), 0)
	}
}

// P20.1: no ids, nil and an empty list of them are one, and less than any others.
func TestCompareNone(t *testing.T) {
	none := [][]int{nil, {}, make([]int, 0, 5), []int{1, 2}[:0], []int{1, 2}[2:]}
	for _, a := range none {
		for _, b := range none {
			for _, name := range []string{"", "a"} {
				wantCompare(t, api.Match{Rule: name, Ids: a}, api.Match{Rule: name, Ids: b}, 0)
			}
			wantCompare(t, api.Match{Rule: "a", Ids: a}, api.Match{Rule: "b", Ids: b}, -1)
		}
		for _, id := range []int{math.MinInt, -1, 0, 1, math.MaxInt} {
			wantCompare(t, api.Match{Rule: "a", Ids: a}, m("a", id), -1)
		}
	}
}

// smallMatches is all matches of a few rules with up to three ids of a few.
func smallMatches() []api.Match {
	var l []api.Match
	for _, name := range []string{"", "B", "a", "ab"} {
		var grow func(ids []int)
		grow = func(ids []int) {
			l = append(l, m(name, slices.Clone(ids)...))
			for _, id := range []int{-1, 2, 10} {
				if len(ids) < 3 {
					grow(append(slices.Clone(ids), id))
				}
			}
		}
		grow(nil)
	}
	return l
}

// P20.1: each two of the small matches, as the chapter's words have it; what is alike is so in new memory, too.
func TestCompareAll(t *testing.T) {
	l := smallMatches()
	for _, a := range l {
		for _, b := range l {
			wantCompare(t, a, b, modelCompare(a, b))
		}
		wantCompare(t, a, m(strings.Clone(a.Rule), slices.Clone(a.Ids)...), 0)
	}
}

// wantSort wants what matches are sorted, and that they themselves stay.
func wantSort(t *testing.T, l, want []api.Match) {
	t.Helper()
	was := shownAll(l)
	wantList(t, "Sort of "+was, Sort(l), want)
	if shownAll(l) != was {
		t.Fatalf("behind Sort %s is %s", was, shownAll(l))
	}
}

// P20.1: the chapter's example.
func TestExample(t *testing.T) {
	wantSort(t, []api.Match{m("b", 1, 2), m("a", 9), m("b", 1)}, []api.Match{m("a", 9), m("b", 1), m("b", 1, 2)})
}

// P20.1: none, one, and those that are alike: one of them stays.
func TestSortFew(t *testing.T) {
	wantSort(t, nil, nil)
	wantSort(t, []api.Match{}, nil)
	wantSort(t, []api.Match{{}}, []api.Match{{}})
	wantSort(t, []api.Match{m("r", 3, 1, 2)}, []api.Match{m("r", 3, 1, 2)})
	wantSort(t, []api.Match{m("r", 2), m("r", 2)}, []api.Match{m("r", 2)})
	wantSort(t, []api.Match{m("r", 2), m("r", 1), m("r", 2), m("r", 1), m("r", 2)}, []api.Match{m("r", 1), m("r", 2)})
	wantSort(t, []api.Match{{Rule: "r"}, {Rule: "r", Ids: []int{}}, {Rule: "r", Ids: []int{1}[:0]}}, []api.Match{m("r")})
	wantSort(t, []api.Match{m("r", 1), m("r"), m("r", 1, 1)}, []api.Match{m("r"), m("r", 1), m("r", 1, 1)})
	wantSort(t, []api.Match{m("b"), m("a"), m("B"), m("")}, []api.Match{m(""), m("B"), m("a"), m("b")})
	wantSort(t, []api.Match{m("a", 10), m("a", 2), m("a", -3)}, []api.Match{m("a", -3), m("a", 2), m("a", 10)})
}

// eachOrder hands on all orders of matches.
func eachOrder(l []api.Match, to func(l []api.Match)) {
	var grow func(ahead, rest []api.Match)
	grow = func(ahead, rest []api.Match) {
		if len(rest) == 0 {
			to(slices.Clone(ahead))
		}
		for i, x := range rest {
			grow(append(slices.Clone(ahead), x), slices.Delete(slices.Clone(rest), i, i+1))
		}
	}
	grow(nil, l)
}

// P20.1: all orders of some matches, with and without such as are alike.
func TestSortAllOrders(t *testing.T) {
	for _, want := range [][]api.Match{
		{m("B", 9), m("a"), m("a", 1), m("a", 1, 2), m("a", 2), m("a", 10), m("ab")},
		{m(""), m("", -1), m("", 0), m("a", math.MinInt), m("a", math.MaxInt)},
	} {
		eachOrder(want, func(l []api.Match) { wantSort(t, l, want) })
	}
	want := []api.Match{m("a"), m("a", 1), m("b")}
	twice := append(slices.Clone(want), m("a"), m("a", 1), m("a", 1), m("b"))
	eachOrder(twice, func(l []api.Match) { wantSort(t, l, want) })
}

// P20.1: many: from behind, each many times, and so many that are alike.
func TestSortMany(t *testing.T) {
	const n = 20000
	var want, back, alikes []api.Match
	for i := range n {
		want = append(want, m("r", i/100, i%100))
		alikes = append(alikes, m("r", 7, 7))
	}
	back = slices.Clone(want)
	slices.Reverse(back)
	for _, l := range [][]api.Match{want, back, append(slices.Clone(back), want...)} {
		if !modelSame(Sort(l), want) {
			t.Error("many aren't sorted:", len(l))
		}
	}
	wantSort(t, alikes, []api.Match{m("r", 7, 7)})
}

// crowded is matches whose ids are pieces of one array, with room behind them, in a list with room behind it; the array, too.
func crowded() ([]api.Match, []int) {
	all := []int{1, 2, 3, 4, 5, 6, 7, 8}
	l := []api.Match{{Rule: "c", Ids: all[2:5]}, {Rule: "a", Ids: all[0:2]}, {Rule: "b", Ids: all[0:0]}, {Rule: "a", Ids: all[0:4]}, {Rule: "c", Ids: all[2:5]}, {Rule: "behind", Ids: all[5:]}, {Rule: "more", Ids: all}}
	return l[:5], all
}

// spoil changes all of what matches are made of, and what stands in the room behind it.
func spoil(l []api.Match) {
	l = l[:cap(l)]
	for i := range l {
		spoilIds(l[i].Ids)
		l[i].Rule, l[i].Ids = "spoilt", []int{-7}
	}
}

func spoilIds(ids []int) {
	ids = ids[:cap(ids)]
	for i := range ids {
		ids[i] = -77
	}
}

// wantOwn wants that what is told of matches shares nothing with them, and that it stays and they stay whatever becomes of the other one.
func wantOwn(t *testing.T, what string, tell func(l []api.Match) []api.Match) {
	t.Helper()
	l, all := crowded()
	was, room := shownAll(l[:cap(l)]), fmt.Sprint(all)
	got := tell(l)
	told := shownAll(got)
	if len(got) == 0 || shownAll(l[:cap(l)]) != was || fmt.Sprint(all) != room {
		t.Errorf("%s: %s; what was handed in is now %s", what, told, shownAll(l[:cap(l)]))
	}
	spoil(got)
	if shownAll(l[:cap(l)]) != was || fmt.Sprint(all) != room {
		t.Errorf("%s: a change of what was told is to be seen in what was handed in: %s", what, shownAll(l[:cap(l)]))
	}
	got = tell(l)
	spoil(l)
	spoilIds(all)
	if shownAll(got) != told {
		t.Errorf("%s: a change of what was handed in is to be seen in what was told: %s; it was %s", what, shownAll(got), told)
	}
	wantApart(t, what, tell)
}

// wantApart wants that the matches that are told share nothing with each other.
func wantApart(t *testing.T, what string, tell func(l []api.Match) []api.Match) {
	t.Helper()
	l, _ := crowded()
	n := len(tell(l))
	for i := range n {
		got := tell(l)
		want := slices.Delete(slices.Clone(got), i, i+1)
		told := shownAll(want)
		spoilIds(got[i].Ids)
		if shownAll(want) != told {
			t.Errorf("%s: a change of the match %d is to be seen in others: %s; they were %s", what, i, shownAll(want), told)
		}
	}
}

// P20.1: what Sort is handed stays, and shares nothing with what it tells.
func TestSortOwn(t *testing.T) {
	wantOwn(t, "Sort", Sort)
}

// wantDiff wants what is gone and what came, and the same with the two lists turned; the lists themselves stay.
func wantDiff(t *testing.T, a, b, wantGone, wantCame []api.Match) {
	t.Helper()
	wasA, wasB := shownAll(a), shownAll(b)
	what := "Diff of " + wasA + " | " + wasB
	gone, came := Diff(a, b)
	wantList(t, what+": gone", gone, wantGone)
	wantList(t, what+": came", came, wantCame)
	back, forth := Diff(b, a)
	wantList(t, what+", turned: gone", back, wantCame)
	wantList(t, what+", turned: came", forth, wantGone)
	if shownAll(a) != wasA || shownAll(b) != wasB {
		t.Fatalf("%s: the lists are now %s | %s", what, shownAll(a), shownAll(b))
	}
}

// P20.1: what is gone and what came: of none, and of lists with nothing, something or all in both.
func TestDiffFew(t *testing.T) {
	some := []api.Match{m("a", 1), m("a", 2), m("b")}
	wantDiff(t, nil, nil, nil, nil)
	wantDiff(t, nil, []api.Match{}, nil, nil)
	wantDiff(t, some, nil, some, nil)
	wantDiff(t, some, []api.Match{}, some, nil)
	wantDiff(t, some, some, nil, nil)
	wantDiff(t, some, slices.Clone(some), nil, nil)
	wantDiff(t, some, []api.Match{m("a", 2)}, []api.Match{m("a", 1), m("b")}, nil)
	wantDiff(t, some, []api.Match{m("a", 2), m("c")}, []api.Match{m("a", 1), m("b")}, []api.Match{m("c")})
	wantDiff(t, some, []api.Match{m("A", 1), m("a", 1, 2), m("a"), m("c")}, some, []api.Match{m("A", 1), m("a"), m("a", 1, 2), m("c")})
	wantDiff(t, []api.Match{{Rule: "a"}}, []api.Match{{Rule: "a", Ids: []int{}}}, nil, nil)
	wantDiff(t, []api.Match{{}}, []api.Match{m("", 0)}, []api.Match{{}}, []api.Match{m("", 0)})
}

// P20.1: lists that aren't sorted, and hold some matches more than once: each that is told is told once, and those of both lists in neither answer.
func TestDiffMess(t *testing.T) {
	a := []api.Match{m("b", 2), m("a"), m("b", 1, 9), m("a"), m("b", 10), m("b", 2)}
	b := []api.Match{m("c"), m("b", 2), m("b", 1), m("c"), m("B"), m("c"), m("B")}
	wantDiff(t, a, b, []api.Match{m("a"), m("b", 1, 9), m("b", 10)}, []api.Match{m("B"), m("b", 1), m("c")})
	twice := []api.Match{m("r", 1), m("r", 1), m("r", 1)}
	wantDiff(t, twice, twice[:1], nil, nil)
	wantDiff(t, twice, nil, twice[:1], nil)
	wantDiff(t, append([]api.Match{m("z")}, twice...), []api.Match{m("z"), m("z")}, twice[:1], nil)
}

// P20.1: all orders of both lists come to one.
func TestDiffAllOrders(t *testing.T) {
	a := []api.Match{m("a", 1), m("a", 10), m("a", 2), m("a", 2)}
	b := []api.Match{m("a", 2), m("B"), m("b", 1), m("a", 3)}
	gone, came := []api.Match{m("a", 1), m("a", 10)}, []api.Match{m("B"), m("a", 3), m("b", 1)}
	eachOrder(a, func(a []api.Match) {
		eachOrder(b, func(b []api.Match) { wantDiff(t, a, b, gone, came) })
	})
}

// P20.1: each two of all lists of up to three of a few matches, some of them more than once.
func TestDiffAll(t *testing.T) {
	few := []api.Match{m("a", 1), m("B"), m("a", 10), m("a")}
	lists := [][]api.Match{nil}
	for begin := 0; len(lists[begin]) < 3; begin++ {
		for _, x := range few {
			lists = append(lists, append(slices.Clone(lists[begin]), x))
		}
	}
	for _, a := range lists {
		for _, b := range lists {
			wantDiff(t, a, b, modelLess(a, b), modelLess(b, a))
		}
	}
	if len(lists) != 1+4+16+64 {
		t.Error("only so many lists:", len(lists))
	}
}

// P20.1: two long lists that have every second match, and every third one.
func TestDiffMany(t *testing.T) {
	const n = 30000
	var a, b, gone, came []api.Match
	for i := range n {
		x := m("r", i)
		if i%2 == 0 {
			a = append(a, x)
		}
		if i%3 == 0 {
			b = append(b, x)
		}
		if i%2 == 0 && i%3 != 0 {
			gone = append(gone, x)
		}
		if i%2 != 0 && i%3 == 0 {
			came = append(came, x)
		}
	}
	slices.Reverse(a)
	gotGone, gotCame := Diff(append(a, a...), b)
	if !modelSame(gotGone, gone) || !modelSame(gotCame, came) {
		t.Error("Diff of many:", len(gotGone), len(gotCame))
	}
}

// P20.1: what Diff is handed stays, and shares nothing with what it tells, nor the one list that it tells with the other one.
func TestDiffOwn(t *testing.T) {
	other := func() []api.Match { return []api.Match{m("a", 1, 2), m("z")} }
	wantOwn(t, "gone", func(l []api.Match) []api.Match {
		gone, _ := Diff(l, other())
		return gone
	})
	wantOwn(t, "came", func(l []api.Match) []api.Match {
		_, came := Diff(other(), l)
		return came
	})
	l, all := crowded()
	more := []api.Match{{Rule: "x", Ids: all[0:3]}, {Rule: "y", Ids: all[0:2]}}
	gone, came := Diff(l, more)
	told := shownAll(came)
	spoil(gone)
	if len(came) != 2 || shownAll(came) != told {
		t.Errorf("what came is now %s; it was %s", shownAll(came), told)
	}
}

// wantSame wants whether two lists are alike, both ways round.
func wantSame(t *testing.T, a, b []api.Match, want bool) {
	t.Helper()
	if Same(a, b) != want || Same(b, a) != want {
		t.Errorf("Same of %s and %s: %v, %v; wanted %v", shownAll(a), shownAll(b), Same(a, b), Same(b, a), want)
	}
}

// P20.1: as many matches, alike one by one.
func TestSame(t *testing.T) {
	l := []api.Match{m("a", 1), m("b"), m("a", 2, 3)}
	wantSame(t, nil, nil, true)
	wantSame(t, nil, []api.Match{}, true)
	wantSame(t, nil, []api.Match{{}}, false)
	wantSame(t, l, l, true)
	wantSame(t, l, []api.Match{m("a", 1), {Rule: "b", Ids: []int{}}, m("a", 2, 3)}, true)
	wantSame(t, l, l[:2], false)
	wantSame(t, l, l[1:], false)
	wantSame(t, l, append(slices.Clone(l), m("a", 2, 3)), false)
	wantSame(t, l, append(slices.Clone(l), api.Match{}), false)
	wantSame(t, []api.Match{m("a"), m("a")}, []api.Match{m("a")}, false)
	orders := 0
	eachOrder(l, func(other []api.Match) {
		wantSame(t, l, other, orders == 0)
		orders++
	})
}

// P20.1: a list in which one match is another one, by its rule, by an id, or by how many ids there are.
func TestSameOne(t *testing.T) {
	l := []api.Match{m("a", 1), m("b", 1, 2), m("c"), m("a", 1)}
	for i, x := range l {
		for _, y := range []api.Match{m(x.Rule+"a", x.Ids...), m("", x.Ids...), m(strings.ToUpper(x.Rule), x.Ids...), m(x.Rule, append(slices.Clone(x.Ids), 0)...), m(x.Rule, append(slices.Clone(x.Ids), 1)...), m(x.Rule, append([]int{2}, x.Ids...)...)} {
			other := slices.Clone(l)
			other[i] = y
			wantSame(t, l, other, false)
		}
		for j := range x.Ids {
			other := Copy(l)
			other[i].Ids[j] = -other[i].Ids[j]
			wantSame(t, l, other, false)
		}
	}
}

// wantText wants a match's text, and that of this text the match is parsed.
func wantText(t *testing.T, x api.Match, want string) {
	t.Helper()
	if got, e := Text(x); got != want || e != api.OK {
		t.Fatalf("Text(%.99s): %.99q, error %d; wanted %.99q", shown(x), got, e, want)
	}
	if got, e := Parse(want); shown(got) != shown(x) || e != api.OK {
		t.Fatalf("Parse(%.99q): %.99s, error %d; wanted %.99s", want, shown(got), e, shown(x))
	}
}

// wantNoText wants that a match has no text.
func wantNoText(t *testing.T, x api.Match, want api.Errno) {
	t.Helper()
	if got, e := Text(x); got != "" || e != want {
		t.Fatalf("Text(%.99s): %.99q, error %d; wanted the error %d", shown(x), got, e, want)
	}
}

// wrongNames is names that aren't right.
func wrongNames() []string {
	return []string{"", " ", "a ", " a", "a b", "ä", "aä", "\x00", "a\x00", "a\n", "\ta", "a.b", "a+", "a/b", "a:", "@", "[", "`", "{", "^", "*", "\x7f", "\x80", "\xff", "a\xc3", "\uff41", "\u0661", "\u212a", strings.Repeat("r", 33), strings.Repeat("r", 1<<16), strings.Repeat("ä", 16), "-" + strings.Repeat("_", 32)}
}

// rightNames is names that are right.
func rightNames() []string {
	return []string{"r", "R", "0", "9", "-", "_", "1", "01", "-1", "a0", "rule-1", "rule_1", "AZaz09-_", "--", "999999999", strings.Repeat("r", 32), strings.Repeat("-", 31)}
}

// oddIds is numbers that are no ids of a text.
func oddIds() []int {
	return []int{0, -1, -2, -10, -999999999, -1000000000, 1000000000, 1000000001, 9999999999, 1 << 30, 1 << 31, 1<<32 + 1, 1<<32 - 1, 1 << 32, 1 << 62, math.MaxInt32, math.MinInt32, math.MaxInt, math.MaxInt - 1, math.MinInt, math.MinInt + 1}
}

// edgeIds is numbers that are ids of a text: where the digits grow more, and the last ones.
func edgeIds() []int {
	ids := []int{2, 7, 22, 4096, 123456789, 987654321, 999999998, 1<<29 + 1, 65536}
	for n := 1; n <= 100000000; n *= 10 {
		ids = append(ids, n, n*10-1, n+1, n*2, n*9)
	}
	return ids
}

// P20.1: each one-byte name, and names of each length, with ids and without.
func TestTextNames(t *testing.T) {
	for b := range 256 {
		name := string([]byte{byte(b)})
		for _, ids := range [][]int{nil, {1}, {0}} {
			x := m(name, ids...)
			want, e := modelText(x)
			if got, f := Text(x); got != want || f != e {
				t.Errorf("Text(%s): %q, error %d; wanted %q, error %d", shown(x), got, f, want, e)
			}
		}
	}
	for n := 1; n <= 32; n++ {
		name := strings.Repeat("x", n)
		wantText(t, m(name), name)
		wantText(t, m(name, n), name+" "+digits(n))
	}
	for _, name := range rightNames() {
		wantText(t, m(name), name)
		wantText(t, m(name, 7), name+" 7")
	}
}

// P20.1: a name that isn't right is told whatever the ids.
func TestTextWrongNames(t *testing.T) {
	for _, name := range wrongNames() {
		wantNoText(t, m(name), api.ErrName)
		wantNoText(t, m(name, 1, 2), api.ErrName)
		for _, id := range oddIds() {
			wantNoText(t, m(name, id), api.ErrName)
			wantNoText(t, m(name, 1, id), api.ErrName)
		}
	}
}

// P20.1: ids at the edges, as the first, the last and the only one.
func TestTextIds(t *testing.T) {
	wantText(t, m("r", 999999999), "r 999999999")
	wantText(t, m("rule-1", 1, 22, 999999999), "rule-1 1 22 999999999")
	wantText(t, m("r", 3, 3, 1), "r 3 3 1")
	for _, id := range edgeIds() {
		wantText(t, m("r", id), "r "+digits(id))
		wantText(t, m("r", id, 1), "r "+digits(id)+" 1")
		wantText(t, m("r", 999999999, id), "r 999999999 "+digits(id))
	}
	for id := 1; id <= 12000; id++ {
		wantText(t, m("q", id), "q "+digits(id))
	}
	for _, id := range oddIds() {
		wantNoText(t, m("r", id), api.ErrArg)
		wantNoText(t, m("r", id, 1), api.ErrArg)
		wantNoText(t, m("r", 1, id), api.ErrArg)
		wantNoText(t, m("r", 1, id, 2), api.ErrArg)
		wantNoText(t, m("r", id, id), api.ErrArg)
	}
}

// P20.1: no ids, and many of them, among which one isn't right.
func TestTextLengths(t *testing.T) {
	for _, none := range [][]int{nil, {}, []int{0, 1}[:0]} {
		wantText(t, api.Match{Rule: "r", Ids: none}, "r")
	}
	const n = 5000
	ids := make([]int, n)
	for i := range ids {
		ids[i] = 1 + i*199999
	}
	want := "r"
	for _, id := range ids {
		want += " " + digits(id)
	}
	wantText(t, m("r", ids...), want)
	wantText(t, m("r", make([]int, 0, 9)...), "r")
	for _, at := range []int{0, 1, n / 2, n - 2, n - 1} {
		wrong := slices.Clone(ids)
		wrong[at] = 0
		wantNoText(t, m("r", wrong...), api.ErrArg)
	}
}

// P20.1: a match stays as it is when its text is told.
func TestTextLeaves(t *testing.T) {
	l, all := crowded()
	was, room := shownAll(l[:cap(l)]), fmt.Sprint(all)
	for _, x := range l {
		wantText(t, x, strings.Join(strings.Fields(x.Rule+" "+strings.Trim(fmt.Sprint(x.Ids), "[]")), " "))
	}
	if shownAll(l[:cap(l)]) != was || fmt.Sprint(all) != room {
		t.Error("behind Text matches are", shownAll(l[:cap(l)]))
	}
}

// refused wants that a text is none.
func refused(t *testing.T, s string) {
	t.Helper()
	if x, e := Parse(s); x.Rule != "" || x.Ids != nil || e != api.ErrForm {
		t.Errorf("Parse(%.60q): %.60s, error %d; wanted ErrForm", s, shown(x), e)
	}
}

// parses wants that Parse answers what the model answers, and that what it reads has just that text.
func parses(t *testing.T, s string) {
	t.Helper()
	want, wantError := modelParse(s)
	x, e := Parse(s)
	if shown(x) != shown(want) || e != wantError {
		t.Fatalf("Parse(%.60q): %.60s, error %d; wanted %.60s, error %d", s, shown(x), e, shown(want), wantError)
	}
	if e != api.OK {
		refused(t, s)
		return
	}
	if text, e := Text(x); text != s || e != api.OK {
		t.Fatalf("Text of what is parsed of %.60q: %.60q, error %d", s, text, e)
	}
}

// P20.1: the empty text, no name, and names that aren't right.
func TestParseNames(t *testing.T) {
	for _, s := range []string{"", " ", "  ", " 1", " r", " r 1", "  r", strings.Repeat(" ", 1<<20)} {
		refused(t, s)
	}
	for _, name := range wrongNames() {
		refused(t, name)
		refused(t, name+" 1")
		refused(t, name+" 1 2")
		refused(t, name+" 0")
	}
	for _, name := range rightNames() {
		wantText(t, m(name), name)
		wantText(t, m(name, 1, 2), name+" 1 2")
		refused(t, "\ufeff"+name)
		refused(t, name+"\x00")
	}
}

// P20.1: a blank too many at each place, none at all, and other signs in a blank's place.
func TestParseBlanks(t *testing.T) {
	for _, s := range []string{"r", "r 1", "r 1 2", "rule-1 1 22 999999999", "1 1"} {
		for _, wrong := range []string{s + " ", s + "  ", " " + s, " " + s + " ", s + "\n", "\n" + s, s + "\r\n", s + "\t", s + "\x00", s + strings.Repeat(" ", 1<<20), strings.ReplaceAll(s+" 1", " ", "  ")} {
			refused(t, wrong)
		}
		for i := range s {
			if s[i] == ' ' {
				refused(t, s[:i]+" "+s[i:])
			}
		}
	}
	for _, blank := range []string{"\t", "\n", "\r", "\v", "\f", "\u00a0", "\u2003", "\u3000", "\u0085", "\x00", ",", ", ", " ,", ";", "+", ".", "\t ", " \t"} {
		refused(t, "r"+blank+"1 2")
		refused(t, "r 1"+blank+"2")
		refused(t, "r"+blank+"1"+blank+"2")
	}
	wantText(t, m("r1", 2), "r1 2")
	wantText(t, m("r", 12), "r 12")
}

// P20.1: what is no id's digits, alone, ahead of right ids and behind them.
func TestParseIds(t *testing.T) {
	wrong := []string{
		"0", "00", "-0", "+0", "-1", "+1", "-999999999", "+999999999", "01", "001", "0999999999", "0000000001", "00999999999",
		"x", "a", "r", "1a", "a1", "1-", "1+", "1_0", "0x1", "0X1", "0b1", "0o1", "1e3", "1.0", "1.", ".1", "1,000", "1'0", "(1)", "*", "one", "_", "\u0661", "\uff11", "\u00b9", "1\x00", "\x001", "1\n", "\r1", "\xff", "1\u0301", "NaN", "Inf",
		"1000000000", "1000000001", "1999999999", "2147483647", "2147483648", "4294967295", "4294967296", "4294967297", "9999999999", "10000000000", "99999999999",
		"9223372036854775807", "9223372036854775808", "18446744073709551615", "18446744073709551616", "18446744073709551617", "36893488147419103233", "99999999999999999999", "-9223372036854775808", "-9223372036854775809", "-18446744073709551615",
		strings.Repeat("9", 10), strings.Repeat("9", 1<<16), strings.Repeat("0", 1<<16) + "1", strings.Repeat("0", 1<<16), "1" + strings.Repeat("0", 1<<16),
	}
	for _, id := range wrong {
		for _, s := range []string{"r " + id, "r " + id + " 1", "r 1 " + id, "r 1 " + id + " 2", "r " + id + " " + id} {
			refused(t, s)
		}
	}
	for n := 0; n <= 3000; n++ {
		refused(t, "r 0"+digits(n))
		refused(t, "r "+digits(1000000000+n))
		refused(t, "r -"+digits(n))
		refused(t, "r +"+digits(n))
	}
}

// P20.1: of all short texts of some signs, those are taken that are a match's text, and no others.
func TestParseAllShort(t *testing.T) {
	const signs, most = "r 01-+", 7
	taken := 0
	var grow func(s string)
	grow = func(s string) {
		parses(t, s)
		if _, e := Parse(s); e == api.OK {
			taken++
		}
		for i := 0; i < len(signs) && len(s) < most; i++ {
			grow(s + signs[i:i+1])
		}
	}
	grow("")
	if want := takenTexts(most); taken != want {
		t.Errorf("%d texts are taken; wanted %d", taken, want)
	}
}

// takenTexts counts the texts of up to so many of these signs: a name of r, 0, 1 and -, and ids of 0 and 1, the first digit a 1.
func takenTexts(most int) int {
	ways := make([]int, most+1) // ends of texts, by their length
	ways[0] = 1
	for n := 1; n <= most; n++ {
		for digits := 1; digits < n; digits++ {
			ways[n] += 1 << (digits - 1) * ways[n-digits-1]
		}
	}
	all := 0
	for name := 1; name <= most; name++ {
		for rest := 0; name+rest <= most; rest++ {
			all += 1 << (2 * name) * ways[rest]
		}
	}
	return all
}

// P20.1: right texts in which a byte is another one, is gone, or has come between, and such as are cut off.
func TestParseOneByte(t *testing.T) {
	for _, s := range []string{"r", "r 1", "rule-1 1 22 999999999", "A 10 2", "_ 999999999 100000000", strings.Repeat("r", 32) + " 1"} {
		parses(t, s)
		for i := range len(s) + 1 {
			for b := range 256 {
				c := string([]byte{byte(b)})
				parses(t, s[:i]+c+s[i:])
				if i < len(s) {
					parses(t, s[:i]+c+s[i+1:])
				}
			}
			parses(t, s[:i])
			parses(t, s[i:])
			parses(t, s[:i]+s[min(i+1, len(s)):])
		}
	}
}

// P20.1: what is parsed of one text shares no ids with what is parsed of it again.
func TestParseOwn(t *testing.T) {
	a, _ := Parse("r 1 2 3")
	spoilIds(a.Ids)
	wantText(t, m("r", 1, 2, 3), "r 1 2 3")
}

// P20.1: a copy is the same, of none, too.
func TestCopy(t *testing.T) {
	for _, l := range [][]api.Match{nil, {}, {{}}, {m("b", 2), m("a"), m("b", 2), {Rule: "c", Ids: []int{}}, m("", math.MinInt, math.MaxInt, 0), m("\xff")}, smallMatches()} {
		wantList(t, "Copy", Copy(l), l)
		wantSame(t, Copy(l), l, true)
	}
}

// P20.1: a copy shares nothing with what was copied, and its matches share nothing with each other.
func TestCopyOwn(t *testing.T) {
	wantOwn(t, "Copy", Copy)
	l := []api.Match{m("a", 1, 2), m("b", 3)}
	own := Copy(l)
	own[0].Ids[1], own[1] = 9, m("x")
	wantList(t, "what was copied", l, []api.Match{m("a", 1, 2), m("b", 3)})
	l[0].Ids[0], l[1].Rule = 8, "y"
	wantList(t, "the copy", own, []api.Match{m("a", 1, 9), m("x")})
	own = append(own[:1], m("z"))
	own[0].Ids = append(own[0].Ids[:1], 7)
	wantList(t, "what was copied", l, []api.Match{m("a", 8, 2), m("y", 3)})
}

// anyMatches is some matches by chance, of few rules and ids, so that many are alike or begin alike.
func anyMatches(r *rand.Rand, most int) []api.Match {
	names := []string{"", "a", "ab", "B", "b", "r10", "r2", "ä", "a b"}
	numbers := []int{1, 2, 3, 10, 11, 100, 0, -1, -10, 999999999, 1000000000, math.MaxInt, math.MinInt}
	var l []api.Match
	for range r.Intn(most + 1) {
		var x api.Match
		x.Rule = names[r.Intn(1+r.Intn(len(names)))]
		for range r.Intn(4) {
			x.Ids = append(x.Ids, numbers[r.Intn(1+r.Intn(len(numbers)))])
		}
		l = append(l, x)
	}
	return l
}

// near is matches by chance most of which are those of a list.
func near(r *rand.Rand, l []api.Match) []api.Match {
	other := Copy(l)
	if len(other) > 0 && r.Intn(2) == 0 {
		i := r.Intn(len(other))
		other = slices.Delete(other, i, i+1)
	}
	if r.Intn(2) == 0 {
		other = append(other, anyMatches(r, 3)...)
	}
	if r.Intn(3) == 0 {
		r.Shuffle(len(other), func(i, j int) { other[i], other[j] = other[j], other[i] })
	}
	return other
}

// P20.1: random lists, held against the chapter's words.
func TestRandom(t *testing.T) {
	for seed := range int64(4000) {
		r := rand.New(rand.NewSource(seed))
		a := anyMatches(r, 1+r.Intn(30))
		b := anyMatches(r, 30)
		wantSort(t, a, modelSort(a))
		wantList(t, "Copy", Copy(a), a)
		for _, b := range [][]api.Match{b, near(r, a)} {
			wantDiff(t, a, b, modelLess(a, b), modelLess(b, a))
			wantSame(t, a, b, modelSame(a, b))
		}
		for i, x := range a {
			wantCompare(t, x, a[0], modelCompare(x, a[0]))
			wantCompare(t, x, a[i/2], modelCompare(x, a[i/2]))
			wantModelText(t, x)
		}
	}
}

// wantModelText wants the text that the model has of a match, or its error.
func wantModelText(t *testing.T, x api.Match) {
	t.Helper()
	want, e := modelText(x)
	if e != api.OK {
		wantNoText(t, x, e)
		return
	}
	wantText(t, x, want)
}

// P20.1: what two engines would tell of their sets: what is gone taken away and what came laid in makes of the one list the other one.
func TestDiffMakesTheOther(t *testing.T) {
	for seed := range int64(500) {
		r := rand.New(rand.NewSource(seed))
		a := anyMatches(r, 40)
		b := near(r, a)
		gone, came := Diff(a, b)
		rest, _ := Diff(a, gone)
		wantList(t, "what is made", Sort(append(rest, came...)), modelSort(b))
	}
}
