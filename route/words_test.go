package route

import (
	"math"
	"math/rand"
	"slices"
	"strconv"
	"strings"
	"testing"

	"stevedore/api"
)

// zonesOf, aislesOf, placesIn and codesAt are what some bins have, each once, in rising order.
func zonesOf(l []api.Bin) []string { return valuesOf(l, func(b api.Bin) string { return b.Zone }) }

func aislesOf(l []api.Bin) []int { return valuesOf(l, func(b api.Bin) int { return b.Aisle }) }

func placesIn(l []api.Bin) []int { return valuesOf(l, func(b api.Bin) int { return b.Place }) }

func codesAt(l []api.Bin) []string { return valuesOf(l, func(b api.Bin) string { return b.Code }) }

// valuesOf is the values of something of bins, each once, in rising order.
func valuesOf[T int | string](l []api.Bin, one func(api.Bin) T) []T {
	var out []T
	for _, b := range l {
		out = append(out, one(b))
	}
	slices.Sort(out)
	return slices.Compact(out)
}

// those is the bins that have something.
func those(l []api.Bin, is func(b api.Bin) bool) []api.Bin {
	return slices.DeleteFunc(slices.Clone(l), func(b api.Bin) bool { return !is(b) })
}

// walked is the codes of some bins as the words of the document visit them: zone by zone, aisle by aisle, place by place.
func walked(l []api.Bin) []string {
	var out []string
	for _, zone := range zonesOf(l) {
		inZone := those(l, func(b api.Bin) bool { return b.Zone == zone })
		for _, aisle := range aislesOf(inZone) {
			inAisle := those(inZone, func(b api.Bin) bool { return b.Aisle == aisle })
			places := placesIn(inAisle)
			if aisle%2 == 1 || aisle%2 == -1 {
				slices.Reverse(places)
			}
			for _, place := range places {
				out = append(out, codesAt(those(inAisle, func(b api.Bin) bool { return b.Place == place }))...)
			}
		}
	}
	return out
}

// pathByWords is P17.2.
func pathByWords(h api.House, codes []string) []string {
	var l []api.Bin
	for _, c := range valuesOf(h.Bins, func(b api.Bin) string { return b.Code }) {
		first := slices.IndexFunc(h.Bins, func(b api.Bin) bool { return b.Code == c })
		if slices.Contains(codes, c) {
			l = append(l, h.Bins[first])
		}
	}
	return walked(l)
}

// aheadByWords is P17.1, of two bins with different codes.
func aheadByWords(a, b api.Bin) bool { return walked([]api.Bin{a, b})[0] == a.Code }

// numberOf is a small number in most cases, and at times one at an end of what a number can be.
func numberOf(r *rand.Rand) int {
	if r.Intn(12) == 0 {
		return []int{math.MinInt, math.MinInt + 1, math.MaxInt - 1, math.MaxInt, 999, 1000}[r.Intn(6)]
	}
	return r.Intn(7) - 3
}

// anyBin is a bin of one of n codes.
func anyBin(r *rand.Rand, n int) api.Bin {
	zone := []string{"", "y", "z", "zz", "Z"}[r.Intn(5)]
	return api.Bin{Code: anyCode(r, n), Zone: zone, Kind: r.Intn(5), Aisle: numberOf(r), Place: numberOf(r), Volume: r.Intn(9), Weight: r.Intn(9), Frozen: r.Intn(2) == 0}
}

// anyCode is one of n codes; some of them begin others.
func anyCode(r *rand.Rand, n int) string {
	if i := r.Intn(n); i > 0 {
		return "b" + strconv.Itoa(i)
	}
	return ""
}

// anyBins is some bins in no order; several may have one code.
func anyBins(r *rand.Rand, n int) []api.Bin {
	var l []api.Bin
	for range r.Intn(n + 1) {
		l = append(l, anyBin(r, n+n/2+1))
	}
	return l
}

// anyCodes is some codes, of which a house may have some, and some several times.
func anyCodes(r *rand.Rand, n int) []string {
	var l []string
	for range r.Intn(2*n + 1) {
		l = append(l, anyCode(r, n+n/2+3))
	}
	return l
}

// TestByTheWords: P17.1 and P17.2, thousands of random houses and bins, held against the words of the document.
func TestByTheWords(t *testing.T) {
	r := rand.New(rand.NewSource(17))
	lengths := map[int]int{}
	for i := range 6000 {
		n := []int{3, 8, 16, 40, 90}[i%5]
		h := houseOf(anyBins(r, n))
		if i%3 == 0 {
			slices.SortStableFunc(h.Bins, func(a, b api.Bin) int { return strings.Compare(a.Code, b.Code) })
		}
		codes := anyCodes(r, n)
		want := pathByWords(h, codes)
		path(t, "a random house", h, codes, want)
		lengths[min(len(want)/5, 5)]++
		a, b := anyBin(r, 9), anyBin(r, 9)
		if r.Intn(2) == 0 {
			b.Zone, b.Aisle = a.Zone, a.Aisle
		}
		if a.Code != b.Code {
			ahead(t, "two random bins", a, b, aheadByWords(a, b))
			ahead(t, "two random bins", b, a, aheadByWords(b, a))
		}
		if t.Failed() {
			t.Fatalf("in the house %+v", h.Bins)
		}
	}
	for part := range 6 {
		if lengths[part] < 100 {
			t.Errorf("%d paths are of %d bins and a few more", lengths[part], part*5)
		}
	}
}

// TestTotalOrder: P17.3, of two bins with different codes just one precedes the other, and what precedes what precedes does so, too.
func TestTotalOrder(t *testing.T) {
	r := rand.New(rand.NewSource(71))
	seen := map[string]int{}
	for range 20000 {
		a, b, c := anyBin(r, 12), anyBin(r, 12), anyBin(r, 12)
		if r.Intn(2) == 0 {
			b.Zone, c.Zone, b.Aisle, c.Aisle = a.Zone, a.Zone, a.Aisle, a.Aisle
		}
		if a.Code == b.Code || a.Code == c.Code || b.Code == c.Code {
			continue
		}
		if Ahead(a, b) == Ahead(b, a) {
			t.Fatalf("Ahead of %+v and %+v is %v both ways round", a, b, Ahead(a, b))
		}
		if Ahead(a, b) && Ahead(b, c) {
			seen["a row"]++
			ahead(t, "what is ahead of what is ahead", a, c, true)
		}
		if b.Aisle == a.Aisle && b.Place == a.Place && b.Zone == a.Zone {
			seen["the same place"]++
		}
		if t.Failed() {
			t.FailNow()
		}
	}
	for _, what := range []string{"a row", "the same place"} {
		if seen[what] < 500 {
			t.Errorf("%s came up %d times", what, seen[what])
		}
	}
}

// TestConsequences: P17.3, Path of what Path answers is the same, the order in which bins are passed makes no difference, and each bin of it is ahead of those behind it.
func TestConsequences(t *testing.T) {
	r := rand.New(rand.NewSource(73))
	for i := range 3000 {
		n := []int{3, 8, 16, 40, 90}[i%5]
		h := houseOf(anyBins(r, n))
		codes := anyCodes(r, n)
		want := Path(h, codes...)
		path(t, "Path of a path", h, want, want)
		r.Shuffle(len(codes), func(i, j int) { codes[i], codes[j] = codes[j], codes[i] })
		path(t, "in another order", h, codes, want)
		slices.Sort(codes)
		path(t, "in the order of the codes", h, codes, want)
		var l []api.Bin
		for _, c := range want {
			l = append(l, h.Bins[slices.IndexFunc(h.Bins, func(b api.Bin) bool { return b.Code == c })])
		}
		inLine(t, "the bins of a path", l)
		if t.Failed() {
			t.Fatalf("of %q in the house %+v", codes, h.Bins)
		}
	}
}
