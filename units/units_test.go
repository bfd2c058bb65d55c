package units

import (
	"math"
	"math/big"
	"math/rand"
	"slices"
	"strconv"
	"strings"
	"testing"

	"stevedore/api"
)

// item makes an item of words like "box=12 case=240": a unit each, in their order; "-" leaves a place unused.
func item(text string) api.Item {
	x := api.Item{Code: "nut", Volume: 3, Weight: 2, Lots: true}
	for i, w := range strings.Fields(text) {
		if w != "-" {
			x.Units[i] = unit(w)
		}
	}
	return x
}

// unit makes a unit of a word like "box=12"; what stands ahead of the sign may be empty.
func unit(word string) api.Unit {
	name, factor, _ := strings.Cut(word, "=")
	n, err := strconv.Atoi(factor)
	if err != nil {
		panic(word)
	}
	return api.Unit{Name: name, Factor: n}
}

// pairs makes what Split answers of words like "case=2 box=1".
func pairs(text string) []api.Pair {
	var l []api.Pair
	for _, w := range strings.Fields(text) {
		u := unit(w)
		l = append(l, api.Pair{Name: u.Name, N: u.Factor})
	}
	return l
}

// base checks what Base answers, nothing but 0 beside an error, and that the item stays as it is.
func base(t *testing.T, x api.Item, unit string, n, want int, e api.Errno) {
	t.Helper()
	kept := x
	got, err := Base(x, unit, n)
	if got != want || err != e {
		t.Errorf("Base(%+v, %q, %d) = %d, %d, want %d, %d", x.Units, unit, n, got, int(err), want, int(e))
	}
	if x != kept {
		t.Errorf("Base(%+v, %q, %d) made the item %+v", kept, unit, n, x)
	}
}

// split checks what Split answers, and that the item stays as it is.
func split(t *testing.T, x api.Item, n int, want []api.Pair) {
	t.Helper()
	kept := x
	if got := Split(x, n); !slices.Equal(got, want) {
		t.Errorf("Split(%+v, %d) = %v, want %v", x.Units, n, got, want)
	}
	if x != kept {
		t.Errorf("Split(%+v, %d) made the item %+v", kept, n, x)
	}
}

// restores checks that the parts of a number are the number again.
func restores(t *testing.T, x api.Item, n int) {
	t.Helper()
	sum := 0
	for _, p := range Split(x, n) {
		got, e := Base(x, p.Name, p.N)
		if e != api.OK {
			t.Fatalf("Base(%+v, %q, %d), a part of %d: error %d", x.Units, p.Name, p.N, n, int(e))
		}
		sum += got
	}
	if sum != n {
		t.Fatalf("the parts of %d in %+v are %d", n, x.Units, sum)
	}
}

// TestBase: P8.1, the examples, each error, and the first of several.
func TestBase(t *testing.T) {
	nut := "box=12 case=240"
	for _, c := range []struct {
		units, unit string
		n, want     int
		e           api.Errno
	}{
		// The document's examples.
		{nut, "case", 2, 480, api.OK},
		{nut, "each", 5, 5, api.OK},
		{nut, "bag", 1, 0, api.ErrUnit},
		{nut, "case", 5000000, 0, api.ErrQty},

		// The numbers from which on there is something.
		{nut, "box", 1, 12, api.OK},
		{nut, "box", 0, 0, api.ErrQty},
		{nut, "box", -1, 0, api.ErrQty},
		{nut, "box", math.MinInt, 0, api.ErrQty},
		{nut, "each", 1, 1, api.OK},
		{nut, "each", 0, 0, api.ErrQty},
		{nut, "each", -1, 0, api.ErrQty},
		{nut, "each", math.MinInt, 0, api.ErrQty},

		// each, without other units, and where a unit is named so or nearly so.
		{"", "each", 7, 7, api.OK},
		{"each=3", "each", 5, 5, api.OK},
		{"a=2 - each=7 each=9", "each", 5, 5, api.OK},
		{"Each=3", "Each", 5, 15, api.OK},
		{"", "Each", 5, 0, api.ErrUnit},
		{"each2=3", "each2", 5, 15, api.OK},
		{"eac=3", "each", 5, 5, api.OK},
		{"each=-1", "each", 5, 5, api.OK},

		// Names are compared whole.
		{nut, "bo", 1, 0, api.ErrUnit},
		{nut, "boxe", 1, 0, api.ErrUnit},
		{nut, "Box", 1, 0, api.ErrUnit},
		{nut, "box ", 1, 0, api.ErrUnit},
		{nut, "nut", 1, 0, api.ErrUnit},
		{nut, "", 1, 0, api.ErrUnit},
		{"", "", 1, 0, api.ErrUnit},
		{"=2", "", 1, 0, api.ErrUnit},
		{"box=2 =3 =1000000", "", 1, 0, api.ErrUnit},

		// A name twice: the first unit counts, and an entry that is no unit does not.
		{"a=5 b=5 a=9", "a", 3, 15, api.OK},
		{"a=9 b=5 a=5", "a", 3, 27, api.OK},
		{"a=5 a=5", "a", 3, 15, api.OK},
		{"a=1 a=9", "a", 3, 27, api.OK},
		{"a=0 b=2 a=9 a=7", "a", 3, 27, api.OK},
		{"a=-9 a=1 a=0 a=4", "a", 3, 12, api.OK},
		{"a=4 a=1", "a", 3, 12, api.OK},
		{"a=1 a=0 a=-4 a=1", "a", 3, 0, api.ErrUnit},

		// Several errors: the unit comes first.
		{nut, "bag", 0, 0, api.ErrUnit},
		{nut, "bag", -1, 0, api.ErrUnit},
		{nut, "bag", math.MinInt, 0, api.ErrUnit},
		{nut, "bag", math.MaxInt, 0, api.ErrUnit},
		{nut, "", 0, 0, api.ErrUnit},
		{"a=1", "a", 0, 0, api.ErrUnit},
	} {
		base(t, item(c.units), c.unit, c.n, c.want, c.e)
	}
}

// TestBaseProducts: P8.1 and R4, products around the limit, and those that an int doesn't hold.
func TestBaseProducts(t *testing.T) {
	for _, c := range []struct {
		factor, n, want int
		e               api.Errno
	}{
		{2, 500000000, 1000000000, api.OK},
		{2, 500000001, 0, api.ErrQty},
		{12, 83333333, 999999996, api.OK},
		{12, 83333334, 0, api.ErrQty},
		{240, 4166666, 999999840, api.OK},
		{240, 4166667, 0, api.ErrQty},
		{999999, 1000, 999999000, api.OK},
		{999999, 1001, 0, api.ErrQty},
		{1000000, 1, 1000000, api.OK},
		{1000000, 999, 999000000, api.OK},
		{1000000, 1000, 1000000000, api.OK},
		{1000000, 1001, 0, api.ErrQty},
		// Products that wrap around: to 0, to a small one, to one below 0, to what may be.
		{2, 1 << 62, 0, api.ErrQty},
		{2, 1<<62 + 1, 0, api.ErrQty},
		{2, 1<<63 - 1, 0, api.ErrQty},
		{3, math.MaxInt/3 + 1, 0, api.ErrQty},
		{3, 6148914691236517206, 0, api.ErrQty},
		{1000000, 1 << 58, 0, api.ErrQty},
		{1000000, 1<<58 + 5, 0, api.ErrQty},
		{1000000, math.MaxInt, 0, api.ErrQty},
		// The same by 32 bits.
		{1000000, 1 << 26, 0, api.ErrQty},
		{65536, 65537, 0, api.ErrQty},
		// Numbers below 1, whose product might pass: it is the number that is asked.
		{2, -1 << 62, 0, api.ErrQty},
		{2, -1<<62 - 1, 0, api.ErrQty},
		{2, math.MinInt, 0, api.ErrQty},
		// Factors that Check of package items refuses.
		{1000001, 1, 1000001, api.OK},
		{1000000000, 1, 1000000000, api.OK},
		{1000000000, 2, 0, api.ErrQty},
		{1000000001, 1, 0, api.ErrQty},
		{1 << 62, 4, 0, api.ErrQty},
		{1 << 62, 1, 0, api.ErrQty},
		{math.MaxInt, 1, 0, api.ErrQty},
		{math.MaxInt, 2, 0, api.ErrQty},
		{math.MaxInt, math.MaxInt, 0, api.ErrQty},
		{math.MaxInt, 0, 0, api.ErrQty},
		{math.MaxInt, -1, 0, api.ErrQty},
		{1, 1, 0, api.ErrUnit},
		{0, 1, 0, api.ErrUnit},
		{-1, 1, 0, api.ErrUnit},
		{-1, -1, 0, api.ErrUnit},
		{-2, -5, 0, api.ErrUnit},
		{-1000000, -7, 0, api.ErrUnit},
		{math.MinInt, 1, 0, api.ErrUnit},
		{math.MinInt, math.MinInt, 0, api.ErrUnit},
	} {
		for place := range api.MaxUnits {
			x := item("a=2 b=3 c=4 d=5")
			x.Units[place] = api.Unit{Name: "box", Factor: c.factor}
			base(t, x, "box", c.n, c.want, c.e)
		}
	}
	for _, c := range []struct {
		n, want int
		e       api.Errno
	}{
		{999999999, 999999999, api.OK}, {1000000000, 1000000000, api.OK}, {1000000001, 0, api.ErrQty},
		{1<<32 + 1, 0, api.ErrQty}, {math.MaxInt, 0, api.ErrQty},
	} {
		base(t, item("box=12"), "each", c.n, c.want, c.e)
	}
}

// TestSplit: P8.2, the example, the order of the units, and what is left.
func TestSplit(t *testing.T) {
	nut := "box=12 case=240"
	for _, c := range []struct {
		units string
		n     int
		want  string
	}{
		{nut, 500, "case=2 box=1 each=8"}, // the document's example

		// No pair of a unit of which there is none.
		{nut, 240, "case=1"},
		{nut, 12, "box=1"},
		{nut, 252, "case=1 box=1"},
		{nut, 241, "case=1 each=1"},
		{nut, 239, "box=19 each=11"},
		{nut, 13, "box=1 each=1"},
		{nut, 11, "each=11"},
		{nut, 1, "each=1"},

		// Nothing.
		{nut, 0, ""},
		{nut, -1, ""},
		{nut, -12, ""},
		{nut, -500, ""},
		{nut, math.MinInt, ""},
		{"", 0, ""},
		{"", -1, ""},

		// each alone, and a unit of Units that is named so.
		{"", 7, "each=7"},
		{"", 1, "each=1"},
		{"each=3", 7, "each=7"},
		{"each=3 x=1", 6, "each=6"},
		{"a=5 each=3 b=2", 9, "a=1 b=2"},
		{"a=5 each=3 b=2", 8, "a=1 b=1 each=1"},
		{"each=3 Each=4", 7, "Each=1 each=3"},

		// Decreasing factors, wherever they stand; equal ones in the order of Units.
		{"a=2 b=3 c=5 d=7", 17, "d=2 b=1"},
		{"d=7 c=5 b=3 a=2", 17, "d=2 b=1"},
		{"c=5 a=2 d=7 b=3", 16, "d=2 a=1"},
		{"a=2 b=10 c=100 d=1000", 4321, "d=4 c=3 b=2 each=1"},
		{"a=2 b=10 c=100 d=1000", 4027, "d=4 b=2 a=3 each=1"},
		{"a=5 b=5", 14, "a=2 each=4"},
		{"b=5 a=5", 14, "b=2 each=4"},
		{"z=3 y=5 x=5 a=3", 14, "y=2 z=1 each=1"},
		{"a=3 x=5 y=5 z=3", 14, "x=2 a=1 each=1"},
		{"- b=5 - a=5", 14, "b=2 each=4"},
		{"d=5 c=5 b=5 a=5", 5, "d=1"},

		// A name twice: the first unit counts, and an entry that is no unit does not.
		{"a=5 b=5 a=9", 9, "a=1 each=4"},
		{"a=9 b=5 a=5", 19, "a=2 each=1"},
		{"a=9 a=5", 14, "a=1 each=5"},
		{"a=5 a=9", 14, "a=2 each=4"},
		{"a=5 a=5", 14, "a=2 each=4"},
		{"a=5 b=7 a=5", 23, "b=3 each=2"},
		{"a=5 b=7 a=6", 13, "b=1 a=1 each=1"},
		{"a=1 a=9", 19, "a=2 each=1"},
		{"a=0 b=5 a=9 a=7", 30, "a=3 each=3"},
		{"a=-9 a=9", 19, "a=2 each=1"},
		{"b=5 a=1 c=5 a=5", 14, "b=2 each=4"},

		// Entries that are no units: a factor below 2, no name.
		{"a=1 b=0 c=-1 d=2", 5, "d=2 each=1"},
		{"a=1", 5, "each=5"},
		{"a=0", 5, "each=5"},
		{"a=-1", 5, "each=5"},
		{"a=-1", -5, ""},
		{"a=-5", -5, ""},
		{"=2 =1000000 b=3", 8, "b=2 each=2"},
		{"=2 =2 =2 =2", 2000000, "each=2000000"},

		// The greatest numbers, and the edges of a factor.
		{"a=2", 2, "a=1"},
		{"a=2", 3, "a=1 each=1"},
		{"a=1000000", 999999, "each=999999"},
		{"a=1000000", 1000000, "a=1"},
		{"a=1000000 b=2", 1000000000, "a=1000"},
		{"a=1000000 b=2", 999999999, "a=999 b=499999 each=1"},
		{"a=1000000 b=2", 1000000001, "a=1000 each=1"},
		{"", math.MaxInt, "each=9223372036854775807"},
		{"a=2", math.MaxInt, "a=4611686018427387903 each=1"},
		{"a=1000000", math.MaxInt, "a=9223372036854 each=775807"},
		{"a=1000001 b=2", 1000002, "a=1 each=1"},
		{"a=9223372036854775807", math.MaxInt, "a=1"},
		{"a=9223372036854775807", math.MaxInt - 1, "each=9223372036854775806"},
		{"a=4611686018427387904 b=2", math.MaxInt, "a=1 b=2305843009213693951 each=1"},
		{"a=2 b=-9223372036854775808 c=9223372036854775807", math.MaxInt, "c=1"},
	} {
		split(t, item(c.units), c.n, pairs(c.want))
	}
}

// TestPlaces: P8.1 and P8.2, each place of a unit used or not, whatever stands beside it.
func TestPlaces(t *testing.T) {
	for used := range 1 << api.MaxUnits {
		var x api.Item
		for i := range x.Units {
			if used>>i&1 == 1 {
				x.Units[i] = api.Unit{Name: "u" + strconv.Itoa(i), Factor: []int{10, 1000, 100, 10000}[i]}
			}
		}
		left, want := 43212, []api.Pair(nil)
		for _, i := range []int{3, 1, 2, 0} {
			u := x.Units[i]
			if u.Factor == 0 {
				base(t, x, "u"+strconv.Itoa(i), 7, 0, api.ErrUnit)
				continue
			}
			base(t, x, u.Name, 7, 7*u.Factor, api.OK)
			want = append(want, api.Pair{Name: u.Name, N: left / u.Factor})
			left %= u.Factor
		}
		base(t, x, "each", 7, 7, api.OK)
		split(t, x, 43212, append(want, api.Pair{Name: "each", N: left}))
	}
}

// TestAnyNames: P8.1 and P8.2, what a name is made of is not asked, nor whether the rest of the item may be.
func TestAnyNames(t *testing.T) {
	for _, name := range []string{" ", "b x", "\x00", "\xff\xfe", "é", "each ", " each", "each\x00", "EACH", strings.Repeat("x", 13), strings.Repeat("each", 1000)} {
		for place := range api.MaxUnits {
			x := api.Item{Code: strings.Repeat("?", 99), Volume: -1, Weight: math.MinInt, Serial: true}
			x.Units[place] = api.Unit{Name: name, Factor: 6}
			base(t, x, name, 7, 42, api.OK)
			base(t, x, name, 0, 0, api.ErrQty)
			base(t, x, name+"x", 7, 0, api.ErrUnit)
			base(t, x, name[1:]+"?", 7, 0, api.ErrUnit)
			split(t, x, 20, []api.Pair{{Name: name, N: 3}, {Name: "each", N: 2}})
		}
	}
}

// TestOnlyUnits: the zero item has each, and only the units of an item are asked, nothing else of it.
func TestOnlyUnits(t *testing.T) {
	for _, x := range []api.Item{{}, {Code: "each"}, {Code: "box", Volume: 9, Weight: 9, Lots: true, Serial: true, Check: true}} {
		base(t, x, "each", 5, 5, api.OK)
		base(t, x, "box", 5, 0, api.ErrUnit)
		base(t, x, "", 5, 0, api.ErrUnit)
		split(t, x, 5, pairs("each=5"))
		x.Units[1] = api.Unit{Name: "box", Factor: 3}
		base(t, x, "box", 5, 15, api.OK)
		split(t, x, 5, pairs("box=1 each=2"))
	}
}

// TestOwnPairs: R2 and R3, what Split answers belongs to the caller, and calls leave no traces.
func TestOwnPairs(t *testing.T) {
	x := item("box=12 case=240 a=12 box=7")
	kept := x
	first := Split(x, 500)
	want := slices.Clone(first)
	second := Split(x, 500)
	for i := range first {
		first[i] = api.Pair{Name: "changed", N: -1}
	}
	_ = append(first[:0], api.Pair{Name: "put", N: -2})
	if !slices.Equal(second, want) {
		t.Errorf("two answers share memory: %v", second)
	}
	if x != kept {
		t.Errorf("the item is %+v, want %+v", x, kept)
	}
	split(t, x, 500, want)
	base(t, x, "box", 2, 24, api.OK)
}

// TestRestores: P8.3, the first numbers, those around the multiples of each factor, the greatest ones, and many between.
func TestRestores(t *testing.T) {
	for _, units := range []string{
		"", "box=12 case=240", "a=2", "a=1000000", "a=2 b=3 c=5 d=7", "d=1000000 c=999999 b=3 a=2",
		"a=1000000 b=1000000 c=2 d=2", "a=5 b=5 a=9", "a=1 a=9", "each=3 x=1", "=2 a=-7 b=0 c=4", "a=1000000000 b=1000000001",
	} {
		x := item(units)
		for n := 1; n <= 5000; n++ {
			restores(t, x, n)
			restores(t, x, api.MaxQty+1-n)
		}
		for n := 1; n <= api.MaxQty; n += 65537 {
			restores(t, x, n)
		}
		for _, u := range x.Units {
			for k := u.Factor; k > 1 && k < api.MaxQty; k *= 3 {
				restores(t, x, k-1)
				restores(t, x, k)
				restores(t, x, k+1)
			}
		}
	}
}

// unitsByWords is the units of an item, word by word: by name, with the first place of each name.
func unitsByWords(x api.Item) (factors, places map[string]int) {
	factors, places = map[string]int{"each": 1}, map[string]int{"each": len(x.Units)}
	for i, u := range x.Units {
		if _, there := factors[u.Name]; !there && u.Name != "" && u.Factor >= 2 {
			factors[u.Name], places[u.Name] = u.Factor, i
		}
	}
	return factors, places
}

// baseByWords is P8.1, word by word, by a product that doesn't wrap around.
func baseByWords(x api.Item, unit string, n int) (int, api.Errno) {
	factors, _ := unitsByWords(x)
	factor, has := factors[unit]
	if !has {
		return 0, api.ErrUnit
	}
	product := new(big.Int).Mul(big.NewInt(int64(n)), big.NewInt(int64(factor)))
	if n < 1 || product.Cmp(big.NewInt(1000000000)) > 0 {
		return 0, api.ErrQty
	}
	return int(product.Int64()), api.OK
}

// splitByWords is P8.2, word by word: of the units that are not yet processed, the one with the greatest factor, of equal ones the first.
func splitByWords(x api.Item, left int) []api.Pair {
	factors, places := unitsByWords(x)
	var l []api.Pair
	for len(factors) > 0 {
		next := ""
		for name, factor := range factors {
			if next == "" || factor > factors[next] || factor == factors[next] && places[name] < places[next] {
				next = name
			}
		}
		if left >= factors[next] {
			n := left / factors[next]
			l = append(l, api.Pair{Name: next, N: n})
			left -= n * factors[next]
		}
		delete(factors, next)
	}
	return l
}

// anyNumber is a random number: small, ordinary, or at an edge.
func anyNumber(r *rand.Rand) int {
	switch r.Intn(4) {
	case 0:
		return r.Intn(8) - 2
	case 1:
		return r.Intn(2000)
	case 2:
		return r.Intn(1000000000)
	}
	return []int{math.MinInt, -1000000, 999999, 1000000, 1000001, 999999999, 1000000000, 1000000001, 1 << 32, 1 << 62, math.MaxInt}[r.Intn(11)]
}

// TestByTheWords: P8.1 to P8.3, many random items and numbers held against the words of the document.
func TestByTheWords(t *testing.T) {
	r := rand.New(rand.NewSource(8))
	names := []string{"a", "b", "c", "d", "each", "", "b x"}
	seen := map[api.Errno]int{}
	for range 40000 {
		x := api.Item{Code: "nut"}
		for i := range x.Units {
			x.Units[i] = api.Unit{Name: names[r.Intn(len(names))], Factor: anyNumber(r)}
		}
		unit, n := names[r.Intn(len(names))], anyNumber(r)
		if r.Intn(8) == 0 {
			unit = "e"
		}
		want, e := baseByWords(x, unit, n)
		base(t, x, unit, n, want, e)
		seen[e]++
		split(t, x, n, splitByWords(x, n))
		if n >= 1 && n <= api.MaxQty {
			restores(t, x, n)
		}
		if t.Failed() {
			return
		}
	}
	for _, e := range []api.Errno{api.OK, api.ErrUnit, api.ErrQty} {
		if seen[e] < 2000 {
			t.Errorf("error %d came up %d times", int(e), seen[e])
		}
	}
}
