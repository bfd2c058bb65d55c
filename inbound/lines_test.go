package inbound

import (
	"math"
	"strconv"
	"strings"
	"testing"

	"stevedore/api"
)

// TestLines: P14.1, each error, lines that are not in use about those that are, and the first wrong line.
func TestLines(t *testing.T) {
	for _, c := range []struct {
		why, lines string
		want       api.Errno
	}{
		{"one", "nut=20", api.OK},
		{"several", "nut=20 milk=30 pump=2", api.OK},
		{"in another order", "pump=2 milk=30 bolt=1 nut=20", api.OK},
		{"behind one that is not in use", "- nut=20", api.OK},
		{"the last one alone", "- - - - - - - nut=20", api.OK},
		{"the first and the last", "nut=20 - - - - - - milk=1", api.OK},
		{"others ahead, between and behind", "- nut=20 - - milk=1 - pump=1 -", api.OK},
		{"all items", "tile=1 pump=2 pill=3 nut=4 milk=5 bolt=6", api.OK},

		{"none", "", api.ErrNone},
		{"no item, and a number asked", "=1", api.ErrNum},
		{"no item, and a number asked, behind one in use", "nut=20 =1", api.ErrNum},
		{"no item, and a number asked, ahead of one in use", "=1 nut=20", api.ErrNum},
		{"no item, and a number asked, between two", "nut=20 =1 milk=1", api.ErrNum},
		{"no item, and a number asked, at the end", "nut=20 - - - - - - =1", api.ErrNum},
		{"no item, and less than nothing asked", "nut=20 =-1", api.ErrNum},
		{"no item, and some done", "nut=20 =0,1", api.ErrNum},
		{"no item, and some back", "nut=20 =0,0,1", api.ErrNum},
		{"no item, and some packed", "nut=20 =0,0,0,1", api.ErrNum},
		{"no item, and some out", "nut=20 =0,0,0,0,1", api.ErrNum},
		{"no item, and numbers that make 0", "nut=20 =0,1,-1", api.ErrNum},

		{"an item that is not there", "wine=20", api.ErrNone},
		{"an item that is not there, behind", "nut=20 wine=1", api.ErrNone},
		{"an item that is not there, ahead", "wine=1 nut=20", api.ErrNone},
		{"an item in another case", "NUT=20", api.ErrNone},
		{"an item that begins alike", "nu=20", api.ErrNone},
		{"a lot as an item", "a=20", api.ErrNone},

		{"an item twice", "nut=20 nut=20", api.ErrThere},
		{"an item twice, with others between", "nut=20 - milk=5 nut=1", api.ErrThere},
		{"an item twice, at both ends", "nut=20 - - - - - - nut=1", api.ErrThere},
		{"another item twice", "nut=20 milk=5 milk=5", api.ErrThere},
		{"an item thrice", "nut=1 nut=2 nut=3", api.ErrThere},

		// Of several wrong lines the first one says.
		{"not there, then unused with a number", "wine=1 =1", api.ErrNone},
		{"unused with a number, then not there", "=1 wine=1", api.ErrNum},
		{"nothing asked, then twice", "nut=0 nut=1", api.ErrQty},
		{"twice, then nothing asked", "nut=1 nut=1 milk=0", api.ErrThere},
		{"some done, then nothing asked", "nut=1,1 milk=0", api.ErrNum},
		{"nothing asked, then some done", "nut=0 milk=1,1", api.ErrQty},
		{"not there, then twice", "nut=1 wine=1 nut=1", api.ErrNone},
		{"twice, then not there", "nut=1 nut=1 wine=1", api.ErrThere},
		{"not there twice", "wine=1 wine=1", api.ErrNone},
	} {
		errno(t, c.why+": Lines of "+c.lines, Lines(usual().house(), linesOf(c.lines)), c.want)
	}
}

// TestAsked: P14.1, the edges of what is asked, in each place.
func TestAsked(t *testing.T) {
	for _, n := range []int{math.MinInt, -1000000000, -2, -1, 0, 1, 2, 12, 999999999, 1000000000, 1000000001, 1 << 32, math.MaxInt} {
		want := api.OK
		if n < 1 || n > 1000000000 {
			want = api.ErrQty
		}
		for i := range api.MaxLines {
			var l [api.MaxLines]api.Line
			l[i] = api.Line{Item: "nut", Asked: n}
			what := strconv.Itoa(n) + " asked in line " + strconv.Itoa(i)
			errno(t, what, Lines(usual().house(), l), want)
			l[(i+3)%api.MaxLines] = api.Line{Item: "milk", Asked: 1}
			errno(t, what+", beside another", Lines(usual().house(), l), want)
		}
	}
}

// numbersOf is the numbers of a line that nothing is done of yet.
func numbersOf(l *api.Line) map[string]*int {
	return map[string]*int{"Done": &l.Done, "Back": &l.Back, "Packed": &l.Packed, "Out": &l.Out}
}

// TestNothingDone: P14.1, each other number of a line must be 0, in each place, whether the line is in use or not.
func TestNothingDone(t *testing.T) {
	for i := range api.MaxLines {
		for _, n := range []int{math.MinInt, -1, 1, 2, 20, math.MaxInt} {
			for name := range numbersOf(&api.Line{}) {
				for _, one := range []api.Line{{Item: "nut", Asked: 20}, {}} {
					var l [api.MaxLines]api.Line
					l[(i+1)%api.MaxLines] = api.Line{Item: "milk", Asked: 1}
					l[i] = one
					errno(t, "Lines", Lines(usual().house(), l), api.OK)
					*numbersOf(&l[i])[name] = n
					errno(t, name+" of "+strconv.Itoa(n)+" in line "+strconv.Itoa(i)+" of "+strconv.Quote(one.Item), Lines(usual().house(), l), api.ErrNum)
				}
			}
		}
	}
}

// wrongLine is a line that is wrong behind one of nuts, and why.
type wrongLine struct {
	line api.Line
	want api.Errno
}

// wrongLines is a line for each error, and for each two of them that a line can have.
func wrongLines() []wrongLine {
	return []wrongLine{
		{lineFrom("=7"), api.ErrNum}, {lineFrom("=0,0,0,0,7"), api.ErrNum},
		{lineFrom("wine=1"), api.ErrNone}, {lineFrom("wine=0"), api.ErrNone}, {lineFrom("wine=1,1"), api.ErrNone},
		{lineFrom("nut=1"), api.ErrThere}, {lineFrom("nut=0"), api.ErrThere}, {lineFrom("nut=1,0,0,1"), api.ErrThere},
		{lineFrom("milk=0"), api.ErrQty}, {lineFrom("milk=-1,5"), api.ErrQty}, {lineFrom("milk=1000000001,0,0,0,1"), api.ErrQty},
		{lineFrom("milk=1,1"), api.ErrNum}, {lineFrom("milk=1000000000,0,-1"), api.ErrNum},
	}
}

// TestFirstLine: P14.1, of wrong lines the first one says, and of what is wrong with it what the promise names first.
func TestFirstLine(t *testing.T) {
	all := wrongLines()
	for _, a := range all {
		for _, b := range all {
			for i := 1; i < api.MaxLines; i++ {
				l := linesOf("nut=20")
				l[i] = a.line
				if i+1 < api.MaxLines {
					l[api.MaxLines-1] = b.line
				}
				errno(t, "Lines of "+strconv.Itoa(i)+": "+a.line.Item, Lines(usual().house(), l), a.want)
			}
		}
	}
	// The same item twice is told at the second line, so a line between them comes first.
	errno(t, "twice about another fault", Lines(usual().house(), linesOf("nut=1 =5 nut=1")), api.ErrNum)
	// No line in use is told only when each line is as it must be.
	for i := range api.MaxLines {
		var l [api.MaxLines]api.Line
		l[i].Out = -1
		errno(t, "no line in use, and a number in one", Lines(usual().house(), l), api.ErrNum)
	}
}

// TestLinesAny: P14.1, the items of a house need not be such as commands make.
func TestLinesAny(t *testing.T) {
	for _, text := range []string{" ", "a b", "\xff", "\x00", strings.Repeat("x", 300)} {
		l := [api.MaxLines]api.Line{3: {Item: text, Asked: 1}}
		errno(t, "an item of "+strconv.Quote(text), Lines(api.House{Items: []api.Item{{Code: text}}}, l), api.OK)
		errno(t, "no item of "+strconv.Quote(text), Lines(api.House{Items: []api.Item{{Code: text + "."}, {}}}, l), api.ErrNone)
		l[7] = l[3]
		errno(t, "twice "+strconv.Quote(text), Lines(api.House{Items: []api.Item{{Code: text}}}, l), api.ErrThere)
	}
	// A line without an item is not in use, even where a house has an item without a code.
	nameless := api.House{Items: []api.Item{{}}}
	errno(t, "an item without a code", Lines(nameless, linesOf("=1")), api.ErrNum)
	errno(t, "an item without a code, and no line", Lines(nameless, linesOf("")), api.ErrNone)
	errno(t, "a house without anything", Lines(zero, linesOf("nut=1")), api.ErrNone)
	errno(t, "a house without anything, and no line", Lines(zero, linesOf("")), api.ErrNone)
	// Items in no order, and twice.
	h := api.House{Items: listOf("nut=1,1 bolt=1,1 nut=2,2 ant=1,1", itemOf)}
	errno(t, "items in no order", Lines(h, linesOf("ant=1 nut=1 bolt=1")), api.OK)
	errno(t, "items in no order, and one that is not there", Lines(h, linesOf("ant=1 nuts=1")), api.ErrNone)
}
