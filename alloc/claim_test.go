package alloc

import (
	"math"
	"slices"
	"strconv"
	"strings"
	"testing"

	"stevedore/api"
)

// withClaims is a house with these claims, whose orders and quants are not there: those who claim do not ask for them.
func withClaims(l ...api.Claim) api.House {
	h := with("a/pin//1=9,4", "p/s pin=4", "").house()
	h.Claims = l
	return h
}

// claims checks what Claim answers of a claim in a house: an error, or the house with these claims.
func claims(t *testing.T, why string, h api.House, c api.Claim, want api.Errno, then ...api.Claim) {
	t.Helper()
	g, e := Claim(h, c)
	after := h
	after.Claims = then
	outcome(t, why, g, e, after, want)
}

// TestClaim: P16.2, more and less of a claim, where a new one goes, and when one is gone.
func TestClaim(t *testing.T) {
	for _, c := range []struct{ why, claims, c, then string }{
		{"the first claim", "", "o/0/a/nut//1=5", "o/0/a/nut//1=5"},
		{"the first claim, with a task", "", "o/7/a/nut/l/3=5,7", "o/7/a/nut/l/3=5,7"},
		{"one piece", "", "o/0/a/nut//1=1", "o/0/a/nut//1=1"},
		{"more", "o/0/a/nut//1=5", "o/0/a/nut//1=3", "o/0/a/nut//1=8"},
		{"more, with a task", "o/0/a/nut//1=5,7", "o/0/a/nut//1=3,7", "o/0/a/nut//1=8,7"},
		{"less", "o/0/a/nut//1=5", "o/0/a/nut//1=-3", "o/0/a/nut//1=2"},
		{"less, and one left", "o/0/a/nut//1=5", "o/0/a/nut//1=-4", "o/0/a/nut//1=1"},
		{"less, and nothing left", "o/0/a/nut//1=5", "o/0/a/nut//1=-5", ""},
		{"less than nothing left", "o/0/a/nut//1=5", "o/0/a/nut//1=-6", "o/0/a/nut//1=-1"},
		{"nothing more", "o/0/a/nut//1=5", "o/0/a/nut//1=0", "o/0/a/nut//1=5"},
		{"a new one of nothing", "", "o/0/a/nut//1=0", ""},
		{"a new one of nothing, beside others", "o/0/b/nut//1=2 o/0/c/nut//1=3", "o/0/a/nut//1=0", "o/0/b/nut//1=2 o/0/c/nut//1=3"},
		{"a new one of less than nothing", "", "o/0/a/nut//1=-5", "o/0/a/nut//1=-5"},
		{"one of less than nothing, and more", "o/0/a/nut//1=-5", "o/0/a/nut//1=3", "o/0/a/nut//1=-2"},
		{"one of less than nothing, up to nothing", "o/0/a/nut//1=-5", "o/0/a/nut//1=5", ""},
		{"one of less than nothing, beyond nothing", "o/0/a/nut//1=-5", "o/0/a/nut//1=6", "o/0/a/nut//1=1"},
		{"one of nothing, and nothing more", "o/0/a/nut//1=0", "o/0/a/nut//1=0", ""},
		{"one of nothing, and more", "o/0/a/nut//1=0", "o/0/a/nut//1=4", "o/0/a/nut//1=4"},
		{"more than a quant may be", "o/0/a/nut//1=1000000000", "o/0/a/nut//1=1000000000", "o/0/a/nut//1=2000000000"},
		{"more than there are numbers", "o/0/a/nut//1=9223372036854775807", "o/0/a/nut//1=1", "o/0/a/nut//1=-9223372036854775808"},
		{"nothing, all the way around", "o/0/a/nut//1=-9223372036854775808", "o/0/a/nut//1=-9223372036854775808", ""},

		{"nothing left of the first", "o/0/a/nut//1=1 o/0/b/nut//1=2 o/0/c/nut//1=3", "o/0/a/nut//1=-1", "o/0/b/nut//1=2 o/0/c/nut//1=3"},
		{"nothing left of the middle one", "o/0/a/nut//1=1 o/0/b/nut//1=2 o/0/c/nut//1=3", "o/0/b/nut//1=-2", "o/0/a/nut//1=1 o/0/c/nut//1=3"},
		{"nothing left of the last", "o/0/a/nut//1=1 o/0/b/nut//1=2 o/0/c/nut//1=3", "o/0/c/nut//1=-3", "o/0/a/nut//1=1 o/0/b/nut//1=2"},
		{"more of the middle one", "o/0/a/nut//1=1 o/0/b/nut//1=2 o/0/c/nut//1=3", "o/0/b/nut//1=7", "o/0/a/nut//1=1 o/0/b/nut//1=9 o/0/c/nut//1=3"},

		{"a line that no order has", "", "o/8/a/nut//1=5", "o/8/a/nut//1=5"},
		{"a line below 0", "o/0/a/nut//1=5", "o/-1/a/nut//1=5", "o/-1/a/nut//1=5 o/0/a/nut//1=5"},
		{"a task below 0", "o/0/a/nut//1=5", "o/0/a/nut//1=5,-1", "o/0/a/nut//1=5,-1 o/0/a/nut//1=5"},
		{"a status that is none", "o/0/a/nut//1=5", "o/0/a/nut//9=5", "o/0/a/nut//1=5 o/0/a/nut//9=5"},
		{"empty texts", "o/0/a/nut//1=5", "/0////0=5", "/0////0=5 o/0/a/nut//1=5"},
		{"empty texts, there", "/0////0=5 o/0/a/nut//1=5", "/0////0=-5", "o/0/a/nut//1=5"},

		{"in no order", "o/0/c/nut//1=3 o/0/a/nut//1=1 o/0/b/nut//1=2", "o/0/a/nut//1=4", "o/0/c/nut//1=3 o/0/a/nut//1=5 o/0/b/nut//1=2"},
		{"a new one in no order", "o/0/c/nut//1=3 o/0/a/nut//1=1", "o/0/b/nut//1=4", "o/0/b/nut//1=4 o/0/c/nut//1=3 o/0/a/nut//1=1"},
		{"a new one in no order, none greater", "o/0/b/nut//1=3 o/0/a/nut//1=1", "o/0/c/nut//1=4", "o/0/b/nut//1=3 o/0/a/nut//1=1 o/0/c/nut//1=4"},
		{"twice: the first", "o/0/a/nut//1=5 o/0/a/nut//1=9", "o/0/a/nut//1=1", "o/0/a/nut//1=6 o/0/a/nut//1=9"},
		{"twice: the first, and nothing left", "o/0/a/nut//1=5 o/0/b/nut//1=2 o/0/a/nut//1=5", "o/0/a/nut//1=-5", "o/0/b/nut//1=2 o/0/a/nut//1=5"},
	} {
		h, x := withClaims(listOf(c.claims, claimOf)...), claimOf(c.c)
		claims(t, c.why, h, x, api.OK, listOf(c.then, claimOf)...)
		same(t, c.why+": the house that was passed", h, withClaims(listOf(c.claims, claimOf)...))
	}
	h, e := Claim(zero, claimOf("o/0/a/nut//1=5"))
	outcome(t, "Claim in an empty house", h, e, api.House{Claims: listOf("o/0/a/nut//1=5", claimOf)}, api.OK)
	h, e = Claim(zero, api.Claim{})
	outcome(t, "an empty Claim in an empty house", h, e, zero, api.OK)
}

// TestKey: P16.2, each field of a claim's key makes another claim, and the fields stand in their order.
func TestKey(t *testing.T) {
	// Each one is behind the one ahead of it by one field, and ahead of it by those that follow in the key.
	sorted := listOf("A/9/z/z/z/9=1,9 B/1/z/z/z/9=1,9 B/2/b/z/z/9=1,9 B/2/c/b/z/9=1,9 B/2/c/d/b/9=1,9 B/2/c/d/e/1=1,9 B/2/c/d/e/2=1,3 B/2/c/d/e/2=1,10", claimOf)
	for i, c := range sorted {
		others := slices.Delete(slices.Clone(sorted), i, i+1)
		claims(t, "a new claim at "+strconv.Itoa(i), withClaims(others...), c, api.OK, sorted...)
		then := slices.Clone(sorted)
		then[i].Qty = 4
		c.Qty = 3
		claims(t, "more of the claim at "+strconv.Itoa(i), withClaims(sorted...), c, api.OK, then...)
		c.Qty = -1
		claims(t, "nothing left of the claim at "+strconv.Itoa(i), withClaims(sorted...), c, api.OK, others...)
	}
	for _, differs := range []string{"p/1/b/nut/l/1=1,7", "o/2/b/nut/l/1=1,7", "o/1/c/nut/l/1=1,7", "o/1/b/oil/l/1=1,7", "o/1/b/nut/m/1=1,7", "o/1/b/nut/l/2=1,7", "o/1/b/nut/l/1=1,8", "oo/1/b/nut/l/1=1,7", "o/1/bn/ut/l/1=1,7"} {
		one, other := claimOf("o/1/b/nut/l/1=5,7"), claimOf(differs)
		claims(t, "a claim that differs: "+differs, withClaims(one), other, api.OK, one, other)
		claims(t, "one that differs from "+differs, withClaims(other), one, api.OK, one, other)
	}
}

// manyClaims is so many claims, each of a line and a task of its own.
func manyClaims(n int) []api.Claim {
	var l []api.Claim
	for i := range n {
		c := claimOf("q/0/z/pin//1=2")
		c.Line, c.Task = i/20, i%20
		l = append(l, c)
	}
	return l
}

// TestFullClaims: P16.2, how many claims a house may have: one that is there already, and one of nothing, need no room.
func TestFullClaims(t *testing.T) {
	for _, n := range []int{0, 1, 126, 127, 128, 129, 256, 400} {
		for _, qty := range []int{1, 7, -1, math.MaxInt, math.MinInt} {
			want := api.OK
			if n >= 128 {
				want = api.ErrFull
			}
			l := manyClaims(n)
			what := strconv.Itoa(n) + " claims, and " + strconv.Itoa(qty)
			x := claimOf("o/0/a/nut//1=0,3")
			claims(t, what+" of a new one of nothing", withClaims(l...), x, api.OK, l...)
			x.Qty = qty
			claims(t, what+" of a new one", withClaims(l...), x, want, append([]api.Claim{x}, l...)...)
			for i := 0; i < n; i += 1 + n/3 {
				x, then := l[i], slices.Clone(l)
				then[i].Qty += qty
				x.Qty = qty
				claims(t, what+" more of one", withClaims(l...), x, api.OK, then...)
				x.Qty = -2
				claims(t, what+": nothing left of one", withClaims(l...), x, api.OK, slices.Delete(slices.Clone(l), i, i+1)...)
				x.Qty = 0
				claims(t, what+": nothing more of one", withClaims(l...), x, api.OK, l...)
			}
		}
	}
}

// TestFillUpClaims: P16.2 and T6, claims that are added in any order stand sorted, while a house fills up; what is gone makes room.
func TestFillUpClaims(t *testing.T) {
	h := withClaims()
	var all []api.Claim
	for i := range 128 {
		c := claimOf("o/0/a/nut//1=1")
		c.Task = i * 37 % 128
		all = append(all, c)
		slices.SortFunc(all, func(a, b api.Claim) int { return a.Task - b.Task })
		claims(t, "claim "+strconv.Itoa(i), h, c, api.OK, all...)
		h, _ = Claim(h, c)
	}
	one := claimOf("o/0/b/nut//1=1")
	claims(t, "one more", h, one, api.ErrFull)
	all = slices.Delete(all, 5, 6)
	claims(t, "nothing left of one", h, claimOf("o/0/a/nut//1=-1,5"), api.OK, all...)
	h, _ = Claim(h, claimOf("o/0/a/nut//1=-1,5"))
	claims(t, "one more where one is gone", h, one, api.OK, append(all, one)...)
}

// TestClaimed: P16.2, all that is held for a line of an order, by whatever task and of whatever quant.
func TestClaimed(t *testing.T) {
	for _, c := range []struct {
		why, claims, order string
		line, want         int
	}{
		{"one", "o/0/a/nut//1=5", "o", 0, 5},
		{"several quants", "o/0/a/nut//1=5 o/0/b/nut//1=4 o/0/b/nut/l/1=3 o/0/b/pin//2=2", "o", 0, 14},
		{"several tasks", "o/0/a/nut//1=5 o/0/a/nut//1=4,7 o/0/a/nut//1=3,9", "o", 0, 12},
		{"another line", "o/0/a/nut//1=5 o/1/a/nut//1=4", "o", 1, 4},
		{"the last line", "o/0/a/nut//1=5 o/7/a/nut//1=4", "o", 7, 4},
		{"among other orders", "n/0/a/nut//1=5 o/0/a/nut//1=4 p/0/a/nut//1=3", "o", 0, 4},
		{"twice", "o/0/a/nut//1=5 o/0/a/nut//1=4", "o", 0, 9},
		{"in no order", "p/0/a/nut//1=1 o/1/a/nut//1=2 o/0/b/nut//1=4 n/0/a/nut//1=8 o/0/a/nut//1=16", "o", 0, 20},
		{"one of less than nothing", "o/0/a/nut//1=5 o/0/b/nut//1=-7", "o", 0, -2},
		{"more than a quant may be", "o/0/a/nut//1=1000000000 o/0/b/nut//1=1000000000", "o", 0, 2000000000},
		{"more than there are numbers", "o/0/a/nut//1=9223372036854775807 o/0/b/nut//1=2", "o", 0, math.MinInt + 1},
		{"the empty code", "/0/a/nut//1=5 o/0/a/nut//1=4", "", 0, 5},
		{"a line that no order has", "o/8/a/nut//1=5 o/-1/a/nut//1=4", "o", 8, 5},
		{"a line below 0", "o/8/a/nut//1=5 o/-1/a/nut//1=4", "o", -1, 4},

		{"no claims", "", "o", 0, 0},
		{"no claims of the empty code", "o/0/a/nut//1=5", "", 0, 0},
		{"no claims of the order", "n/0/a/nut//1=5 p/0/a/nut//1=4", "o", 0, 0},
		{"no claims of the line", "o/0/a/nut//1=5 o/2/a/nut//1=4", "o", 1, 0},
		{"a line that is not there", "o/0/a/nut//1=5", "o", 8, 0},
		{"a line far below 0", "o/0/a/nut//1=5", "o", math.MinInt, 0},
		{"a line greater by 2^32", "o/0/a/nut//1=5", "o", 1 << 32, 0},
		{"an order in another case", "o/0/a/nut//1=5", "O", 0, 0},
		{"an order that begins alike", "oo/0/a/nut//1=5", "o", 0, 0},
		{"a code that is too long", "o/0/a/nut//1=5", strings.Repeat("o", 300), 0, 0},
	} {
		h := withClaims(listOf(c.claims, claimOf)...)
		if n := Claimed(h, c.order, c.line); n != c.want {
			t.Errorf("%s: Claimed of %q and %d = %d, want %d", c.why, c.order, c.line, n, c.want)
		}
		same(t, c.why+": the house that was passed", h, withClaims(listOf(c.claims, claimOf)...))
	}
	if n := Claimed(zero, "o", 0); n != 0 {
		t.Errorf("Claimed in an empty house = %d", n)
	}
}

// TestClaimMakesClaimed: P16.2, what is claimed of a line is what Claim added to it, whatever the other claims are.
func TestClaimMakesClaimed(t *testing.T) {
	h := withClaims()
	sums := map[string]int{}
	for i := range 400 {
		c := claimOf("o/0/a/nut//1=0")
		c.Order, c.Line, c.Bin, c.Task = string(rune('o'+i%2)), i/2%3, string(rune('a'+i/6%3)), i/18%3
		c.Qty = i*i%23 - 9
		sums[c.Order+strconv.Itoa(c.Line)] += c.Qty
		g, e := Claim(h, c)
		errno(t, "Claim", e, api.OK)
		h = g
		for line := range 3 {
			for _, code := range []string{"o", "p"} {
				if n, want := Claimed(h, code, line), sums[code+strconv.Itoa(line)]; n != want {
					t.Fatalf("behind %d claims Claimed of %s and %d = %d, want %d", i, code, line, n, want)
				}
			}
		}
		if slices.ContainsFunc(h.Claims, func(c api.Claim) bool { return c.Qty == 0 }) {
			t.Fatalf("a claim of nothing is left: %+v", h.Claims)
		}
	}
}
