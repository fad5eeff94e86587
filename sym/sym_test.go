package sym

import (
	"math"
	"strconv"
	"strings"
	"testing"
	"unsafe"

	"retiary/api"
)

// allSigns is written out, so that the tests hold the program against the document, not against itself.
const allSigns = "abcdefghijklmnopqrstuvwxyzABCDEFGHIJKLMNOPQRSTUVWXYZ0123456789-_"

// wrongNames is names that aren't right: by their length, by one sign, or by bytes that are no sign.
func wrongNames() []string {
	return []string{
		"",
		" ",
		"a b",
		" a",
		"a ",
		"a\n",
		"a\x00",
		"\x7f",
		"a.b",
		"a/b",
		"a:b",
		"a@b",
		"a[b",
		"a`b",
		"a{b",
		"a,b",
		"a^b",
		"?1",
		"(a",
		"ä",
		"aä",
		"äa",
		"\u212a",     // the sign of Kelvin, whose small letter is k
		"\u017f",     // the long s, whose great letter is S
		"\uff41",     // a wide a
		"\u0661",     // an Arabic digit
		"\u2013",     // a dash
		"a\u0301",    // an a, and an accent for it
		"\u0161",     // its lowest byte is that of a
		"\U00010061", // its lowest two bytes are those of a
		"\xff",       // no sign at all
		"a\xc3",      // a sign that is cut off
		"\xc1\xa1",   // an a, written too long
		"\xe1",       // a with its highest bit
		"\ufffd",     // what stands for what is no sign
		strings.Repeat("x", 33),
		strings.Repeat("x", 34),
		strings.Repeat("x", 1<<16),
		strings.Repeat("ä", 16), // 32 bytes
		strings.Repeat("ä", 32), // 32 signs
		strings.Repeat("x", 31) + " ",
		" " + strings.Repeat("x", 31),
		strings.Repeat("x", 31) + "\xff",
	}
}

// P1.1: the length of a name.
func TestRightLength(t *testing.T) {
	for n := 0; n <= 70; n++ {
		want := n >= 1 && n <= 32
		if got := Right(strings.Repeat("x", n)); got != want {
			t.Errorf("Right of %d bytes: %v", n, got)
		}
	}
}

// P1.1: every byte there is, alone, and first, within and last in a name.
func TestRightByte(t *testing.T) {
	for b := 0; b < 256; b++ {
		c := string([]byte{byte(b)})
		want := strings.Contains(allSigns, c)
		for _, name := range []string{c, c + "a", "a" + c + "a", "a" + c, strings.Repeat("a", 31) + c, c + strings.Repeat("a", 31)} {
			if got := Right(name); got != want {
				t.Errorf("Right(%q): %v", name, got)
			}
		}
	}
}

// P1.1: every sign above those of one byte, whatever its lower bits are.
func TestRightSign(t *testing.T) {
	for r := rune(0x80); r <= 0x10ffff; r++ {
		if Right(string(r)) {
			t.Fatalf("Right of the sign %x", r)
		}
	}
}

// P1.1: ordinary names, and wrong ones.
func TestRight(t *testing.T) {
	for _, name := range []string{"a", "Z", "0", "-", "_", "on", "On", "left-of", "red_2", "007", "--", allSigns[:32], allSigns[32:]} {
		if !Right(name) {
			t.Errorf("%q isn't right", name)
		}
	}
	for _, name := range wrongNames() {
		if Right(name) {
			t.Errorf("%q is right", name)
		}
	}
}

// mustIntern interns a name, and wants that symbol.
func mustIntern(t *testing.T, x *Table, name string, want int) {
	t.Helper()
	if sym, e := x.Intern(name); sym != want || e != api.OK {
		t.Fatalf("Intern(%q): %d, error %d; wanted %d", name, sym, e, want)
	}
}

// holds wants that a table has these names, in the order of their symbols, and nothing else.
func holds(t *testing.T, x *Table, names []string) {
	t.Helper()
	if x.Len() != len(names) {
		t.Fatalf("Len: %d; wanted %d", x.Len(), len(names))
	}
	for i, name := range names {
		if sym, ok := x.Find(name); sym != i+1 || !ok {
			t.Fatalf("Find(%q): %d, %v; wanted %d", name, sym, ok, i+1)
		}
		if got, ok := x.Name(i + 1); got != name || !ok {
			t.Fatalf("Name(%d): %q, %v; wanted %q", i+1, got, ok, name)
		}
	}
	for _, sym := range []int{0, -1, -2, len(names) + 1, len(names) + 2, 4097, math.MaxInt32 + 1, math.MaxInt, math.MinInt, math.MinInt + 1} {
		if got, ok := x.Name(sym); got != "" || ok {
			t.Fatalf("Name(%d): %q, %v; wanted none", sym, got, ok)
		}
	}
	for _, name := range append(wrongNames(), "none-of-them") {
		if sym, ok := x.Find(name); sym != 0 || ok {
			t.Fatalf("Find(%q): %d, %v; wanted none", name, sym, ok)
		}
	}
}

// P1.1: a table without names.
func TestEmpty(t *testing.T) {
	holds(t, New(), nil)
}

// P1.1: the chapter's example.
func TestExample(t *testing.T) {
	x := New()
	mustIntern(t, x, "a", 1)
	mustIntern(t, x, "b", 2)
	mustIntern(t, x, "a", 1)
	holds(t, x, []string{"a", "b"})
}

// P1.1: symbols are given in the order in which new names come; names that are nearly alike are others.
func TestIntern(t *testing.T) {
	x := New()
	names := []string{
		"on", "On", "ON", "oN", "o", "n", "on-", "-on", "on_", "no", "1", "01", "-1", "_", "-", "--",
		strings.Repeat("x", 31), strings.Repeat("x", 32), strings.Repeat("x", 31) + "y", "y" + strings.Repeat("x", 31),
	}
	for i, name := range names {
		mustIntern(t, x, name, i+1)
		holds(t, x, names[:i+1])
	}
	for i := len(names) - 1; i >= 0; i-- {
		mustIntern(t, x, names[i], i+1)
	}
	holds(t, x, names)
}

// P1.1: a wrong name is refused, and changes nothing.
func TestInternWrong(t *testing.T) {
	x := New()
	refused := func() {
		for _, name := range wrongNames() {
			if sym, e := x.Intern(name); sym != 0 || e != api.ErrName {
				t.Fatalf("Intern(%q): %d, error %d", name, sym, e)
			}
		}
	}
	refused()
	holds(t, x, nil)
	mustIntern(t, x, "a", 1)
	refused()
	holds(t, x, []string{"a"})
	mustIntern(t, x, "b", 2)
	holds(t, x, []string{"a", "b"})
}

// P1.1: to be asked for, a name isn't interned.
func TestFindInternsNothing(t *testing.T) {
	x := New()
	x.Find("b")
	x.Name(1)
	holds(t, x, nil)
	mustIntern(t, x, "a", 1)
	mustIntern(t, x, "b", 2)
	holds(t, x, []string{"a", "b"})
}

// manyNames is n names that are unlike.
func manyNames(n int) []string {
	var names []string
	for i := range n {
		names = append(names, "n"+strconv.Itoa(i))
	}
	return names
}

// P1.1: a full table has what it has, and takes nothing more.
func TestFull(t *testing.T) {
	x := New()
	names := manyNames(4096)
	for i, name := range names[:4095] {
		mustIntern(t, x, name, i+1)
	}
	holds(t, x, names[:4095])
	mustIntern(t, x, names[4095], 4096)
	holds(t, x, names)

	for _, name := range []string{"new", "another", "new", "n4096", strings.Repeat("x", 32)} {
		if sym, e := x.Intern(name); sym != 0 || e != api.ErrBig {
			t.Fatalf("Intern(%q) of a full table: %d, error %d", name, sym, e)
		}
		if sym, ok := x.Find(name); sym != 0 || ok {
			t.Fatalf("Find(%q): %d, %v", name, sym, ok)
		}
	}
	// That a name is wrong is asked ahead of whether there is room.
	for _, name := range wrongNames() {
		if sym, e := x.Intern(name); sym != 0 || e != api.ErrName {
			t.Fatalf("Intern(%q) of a full table: %d, error %d", name, sym, e)
		}
	}
	holds(t, x, names)
	for i, name := range names {
		mustIntern(t, x, name, i+1)
	}
	holds(t, x, names)
}

// P1.2: unlike names have unlike symbols, alike ones the same one, whatever comes between.
func TestOwnSymbol(t *testing.T) {
	x := New()
	var names []string
	symbols := map[string]int{}
	seed := uint32(1)
	for range 20000 {
		seed = seed*1664525 + 1013904223
		name := strconv.FormatUint(uint64(seed>>16)%6000, 36)
		want, known := symbols[name]
		if !known && len(names) < 4096 {
			names = append(names, name)
			want = len(names)
			symbols[name] = want
		}
		wantError := api.OK
		if want == 0 {
			wantError = api.ErrBig
		}
		if sym, e := x.Intern(name); sym != want || e != wantError {
			t.Fatalf("Intern(%q): %d, error %d; wanted %d, error %d", name, sym, e, want, wantError)
		}
	}
	if len(names) != 4096 {
		t.Fatalf("only %d names came", len(names))
	}
	holds(t, x, names)
}

// P1.2: of two tables each has names of its own.
func TestTwoTables(t *testing.T) {
	x, y := New(), New()
	mustIntern(t, x, "a", 1)
	mustIntern(t, y, "b", 1)
	mustIntern(t, x, "b", 2)
	mustIntern(t, x, "c", 3)
	mustIntern(t, y, "a", 2)
	holds(t, x, []string{"a", "b", "c"})
	holds(t, y, []string{"b", "a"})
}

// A Table that New didn't make has no names either, and doesn't panic.
func TestZeroTable(t *testing.T) {
	var x Table
	holds(t, &x, nil)
	mustIntern(t, &x, "a", 1)
	mustIntern(t, &x, "b", 2)
	holds(t, &x, []string{"a", "b"})
}

// P1.2: neither the memory of a name that is handed in is kept, nor is that of one that is answered: whatever becomes of them, names stay.
func TestSharesNothing(t *testing.T) {
	x := New()
	b := []byte("abc")
	mustIntern(t, x, unsafe.String(&b[0], len(b)), 1)
	copy(b, "xyz")
	holds(t, x, []string{"abc"})
	mustIntern(t, x, "xyz", 2)

	name, _ := x.Name(1)
	again, _ := x.Name(1)
	if unsafe.StringData(name) == unsafe.StringData(again) {
		t.Error("two answers share memory")
	}
}
