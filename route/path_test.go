package route

import (
	"slices"
	"strconv"
	"strings"
	"testing"

	"stevedore/api"
)

// path checks what Path answers of some bins of a house.
func path(t *testing.T, why string, h api.House, bins, want []string) {
	t.Helper()
	if got := Path(h, bins...); !slices.Equal(got, want) {
		t.Errorf("%s: Path of %q = %q, want %q", why, bins, got, want)
	}
}

// orders is some orders of the words of a list, and that list with each word twice.
func orders(l []string) [][]string {
	falls, rises := slices.Clone(l), slices.Sorted(slices.Values(l))
	slices.Reverse(falls)
	half := len(l) / 2
	mixed := slices.Concat(l[half:], l[:half])
	for i := range half {
		if i%2 == 0 {
			mixed[i], mixed[len(l)-1-i] = mixed[len(l)-1-i], mixed[i]
		}
	}
	return [][]string{l, falls, rises, slices.Concat(l[half:], l[:half]), mixed, slices.Concat(l, l), slices.Concat(falls, l)}
}

// shop is bins in no order, of two zones with some aisles.
const shop = "a/z/1/5 b/z/1/7 c/z/2/7 d/z/2/5 e/y/9/9 f/z/2/5 g/y/0/3 h/y/-1/3 i/y/-1/4 j/y/-2/4 k/y/-2/3"

// TestExample: the document's example, in each order of the bins.
func TestExample(t *testing.T) {
	h := houseOf(binsOf("a/z/1/5 b/z/1/7 c/z/2/7 d/z/2/5"))
	for _, i := range []int{0, 1, 2, 3} {
		for _, j := range []int{0, 1, 2} {
			for _, k := range []int{0, 1} {
				l := slices.Insert(slices.Insert(slices.Insert([]string{"a"}, k, "b"), j, "c"), i, "d")
				path(t, "the example", h, l, []string{"b", "a", "d", "c"})
			}
		}
	}
}

// TestPath: P17.2 and P17.3, those of the bins that the house has, each once, in whatever order they are passed.
func TestPath(t *testing.T) {
	for _, c := range []struct{ why, house, bins, want string }{
		{"no bins", shop, "", ""},
		{"one", shop, "a", "a"},
		{"one that is not there", shop, "x", ""},
		{"several that are not there", shop, "x aa A z y 1", ""},
		{"two", shop, "a b", "b a"},
		{"two of an even aisle", shop, "c d", "d c"},
		{"the same place", shop, "f d", "d f"},
		{"two zones", shop, "a e", "e a"},
		{"aisles below 0", shop, "h i j k g", "k j i h g"},
		{"there and not there", shop, "x a y b zz aa", "b a"},
		{"all", shop, "a b c d e f g h i j k", "k j i h g e b a d f c"},
		{"all, and one that is not there", shop, "a b c d x e f g h i j k", "k j i h g e b a d f c"},
		{"in the order of the path", "k/y/-2/3 j/y/-2/4 b/z/1/7 a/z/1/5", "a b j k", "k j b a"},
		{"against the order of the path", "a/z/1/5 b/z/1/7 j/y/-2/4 k/y/-2/3", "a b j k", "k j b a"},
		{"a code twice: the first", "b/z/2/1 a/z/2/9 a/z/2/0", "a b", "b a"},
		{"a code twice, with others between", "a/z/2/9 b/z/2/1 a/z/2/0 c/z/2/5 b/z/2/8", "a b c", "b c a"},
		{"a code twice: the first is in another aisle", "a/z/3/1 b/z/2/1 a/z/1/1", "a b", "b a"},
		{"a code twice: the first is in another zone", "a/z/1/1 b/y/1/1 a/x/1/1", "a b", "b a"},
		{"each bin is one code", "a/z/2/9 a/z/2/0 a/y/1/1", "a", "a"},
		{"a code that begins another one", "aa/z/2/1 a/z/2/2", "a aa", "aa a"},
		{"no bins in the house", "", "a b c", ""},
		{"the least and the greatest numbers", "a/z/" + greatest + "/" + least + " b/z/" + greatest + "/" + greatest + " c/z/" + least + "/" + greatest + " d/z/" + least + "/" + least, "a b c d", "d c b a"},
	} {
		for _, l := range orders(strings.Fields(c.bins)) {
			path(t, c.why, houseOf(binsOf(c.house)), l, strings.Fields(c.want))
			path(t, c.why+", and nothing else in the house", api.House{Bins: binsOf(c.house)}, l, strings.Fields(c.want))
		}
	}
}

// TestTwice: P17.2, a bin that is passed several times is visited once.
func TestTwice(t *testing.T) {
	h := houseOf(binsOf(shop))
	path(t, "a bin twice", h, []string{"a", "a"}, []string{"a"})
	path(t, "a bin 99 times", h, slices.Repeat([]string{"c"}, 99), []string{"c"})
	path(t, "with others between", h, []string{"a", "b", "a", "c", "b", "a"}, []string{"b", "a", "c"})
	path(t, "several, many times", h, slices.Repeat([]string{"c", "d", "a", "e"}, 25), []string{"e", "a", "d", "c"})
	path(t, "one that is not there, twice", h, []string{"x", "a", "x", "x"}, []string{"a"})
	path(t, "the same place, twice", h, []string{"f", "d", "f", "d"}, []string{"d", "f"})
}

// TestEmptyText: P17.2, an empty text is a bin only if the house has one without a code.
func TestEmptyText(t *testing.T) {
	path(t, "no such bin", houseOf(binsOf(shop)), []string{""}, nil)
	path(t, "no such bin, and one that is there", houseOf(binsOf(shop)), []string{"", "a", ""}, []string{"a"})
	h := houseOf(binsOf("a/z/2/5 /z/2/5 b/z/2/4"))
	path(t, "a bin without a code", h, []string{""}, []string{""})
	path(t, "a bin without a code, and others", h, []string{"a", "", "b", "", "a"}, []string{"b", "", "a"})
	path(t, "a zero bin", api.House{Bins: make([]api.Bin, 2)}, []string{"", ""}, []string{""})
}

// TestEmptyHouse: P17.2, in a house without bins nothing is on the path.
func TestEmptyHouse(t *testing.T) {
	for why, h := range map[string]api.House{"an empty house": {}, "a house without bins": houseOf(nil), "a house with an empty list": houseOf([]api.Bin{})} {
		path(t, why, h, nil, nil)
		path(t, why, h, []string{}, nil)
		path(t, why, h, []string{""}, nil)
		path(t, why, h, []string{"a"}, nil)
		path(t, why, h, []string{"a", "b", "a", "", "z"}, nil)
	}
}

// TestWhateverBins: P17.2, bins of each kind are on the path, frozen or not, though their zone is not there, and of any codes.
func TestWhateverBins(t *testing.T) {
	h := houseOf([]api.Bin{
		{Code: "dock", Zone: "z", Kind: api.Dock, Aisle: 1, Place: 3}, {Code: "cart", Zone: "z", Kind: api.Cart, Aisle: 1, Place: 9}, {Code: "carton", Zone: "z", Kind: api.Carton, Aisle: 1, Place: 4},
		{Code: "frozen", Zone: "z", Kind: api.Shelf, Aisle: 1, Place: 5, Frozen: true}, {Code: "none", Zone: "gone", Kind: 0, Aisle: 8}, {Code: "odd kind", Kind: -7, Volume: -1},
		{Code: "\xff", Zone: "z", Aisle: 1, Place: 3}, {Code: strings.Repeat("x", 99), Zone: "z", Aisle: 2},
	})
	var l []string
	for _, b := range h.Bins {
		l = append(l, b.Code)
	}
	for _, l := range orders(l) {
		path(t, "bins of all kinds", h, l, []string{"odd kind", "none", "cart", "frozen", "carton", "dock", "\xff", strings.Repeat("x", 99)})
	}
}

// hall is n bins of some zones, aisles and places, several of them at the same place, and their codes in the order of the path.
func hall(n int) ([]api.Bin, []string) {
	var bins []api.Bin
	var codes []string
	for i := range n {
		aisle, place := i/20%5-2, i%20/2
		if aisle%2 != 0 {
			place = 9 - place
		}
		// The greater half of the codes is ahead, but at one place the lesser one is.
		code := "b" + strconv.Itoa((n-i/2)*2+1000+i%2)
		bins = append(bins, api.Bin{Code: code, Zone: "z" + string(rune('a'+i/100)), Kind: api.Shelf, Aisle: aisle, Place: place})
		codes = append(codes, code)
	}
	return bins, codes
}

// TestMany: P17.2 and P17.3, many bins, and many that the house has not, in several orders.
func TestMany(t *testing.T) {
	for _, n := range []int{2, 11, 12, 13, 20, 21, 22, 64, 100, 300} {
		bins, want := hall(n)
		inLine(t, strconv.Itoa(n)+" bins", bins)
		for _, l := range orders(want) {
			h := houseOf(bins)
			path(t, strconv.Itoa(n)+" bins", h, l, want)
			slices.SortFunc(h.Bins, func(a, b api.Bin) int { return strings.Compare(a.Code, b.Code) })
			path(t, strconv.Itoa(n)+" bins, sorted", h, l, want)
			path(t, strconv.Itoa(n)+" bins, half of them there", houseOf(h.Bins[:n/2]), l, keptOf(want, h.Bins[:n/2]))
			path(t, strconv.Itoa(n)+" bins, none of them there", houseOf(binsOf(shop)), l, nil)
		}
	}
}

// keptOf is those of some codes that bins have.
func keptOf(codes []string, bins []api.Bin) []string {
	return slices.DeleteFunc(slices.Clone(codes), func(c string) bool {
		return !slices.ContainsFunc(bins, func(b api.Bin) bool { return b.Code == c })
	})
}

// TestEachSet: P17.2, each set of the bins of a house, with and without one that is not there.
func TestEachSet(t *testing.T) {
	whole := []string{"k", "j", "i", "h", "g", "e", "b", "a", "d", "f", "c"}
	h := houseOf(binsOf(shop))
	for set := range 1 << len(whole) {
		var want []string
		for i, c := range whole {
			if set>>i&1 == 1 {
				want = append(want, c)
			}
		}
		falls := slices.Clone(want)
		slices.Reverse(falls)
		path(t, "a set", h, slices.Sorted(slices.Values(want)), want)
		path(t, "a set, the other way round", h, append(falls, "x"), want)
	}
}
