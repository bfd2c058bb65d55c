package inbound

import (
	"reflect"
	"strconv"
	"strings"
	"testing"

	"stevedore/api"
)

// zero is a house without anything: the one beside an error.
var zero api.House

// number is a number that a test wrote out; none is 0.
func number(s string) int {
	if s == "" {
		return 0
	}
	n, err := strconv.Atoi(s)
	if err != nil {
		panic(s)
	}
	return n
}

// numbers is n numbers of a text like "3,1"; those that are not there are 0.
func numbers(s string, n int) []int {
	l := make([]int, n)
	for i, w := range strings.Split(s, ",") {
		l[i] = number(w)
	}
	return l
}

// listOf makes a list of words.
func listOf[T any](text string, one func(w string) T) []T {
	var l []T
	for _, w := range strings.Fields(text) {
		l = append(l, one(w))
	}
	return l
}

// itemOf makes an item of a word like "nut=3,1": a code, a volume and a weight. With : behind it, l means that it is kept by lots, s that it is serial, c that it is checked. Each has a box of 12 and a case of 240.
func itemOf(w string) api.Item {
	w, flags, _ := strings.Cut(w, ":")
	code, both, _ := strings.Cut(w, "=")
	n := numbers(both, 2)
	return api.Item{
		Code: code, Volume: n[0], Weight: n[1], Units: [api.MaxUnits]api.Unit{{}, {Name: "box", Factor: 12}, {Name: "case", Factor: 240}},
		Lots: strings.Contains(flags, "l"), Serial: strings.Contains(flags, "s"), Check: strings.Contains(flags, "c"),
	}
}

// lotOf makes a lot of a word like "milk/a": an item and a code.
func lotOf(w string) api.Lot {
	item, code, _ := strings.Cut(w, "/")
	return api.Lot{Item: item, Code: code, Expiry: 30}
}

// zoneOf makes a zone of a word like "z/s": a code and a site.
func zoneOf(w string) api.Zone {
	code, site, _ := strings.Cut(w, "/")
	return api.Zone{Code: code, Site: site}
}

// binOf makes a dock of a word like "d/z=9,9": a code, a zone, a volume and a weight. With ! behind it, it is frozen; with # and a number, it is of that kind.
func binOf(w string) api.Bin {
	w, frozen := strings.CutSuffix(w, "!")
	w, kind, other := strings.Cut(w, "#")
	if !other {
		kind = "2"
	}
	name, both, _ := strings.Cut(w, "=")
	code, zone, _ := strings.Cut(name, "/")
	n := numbers(both, 2)
	return api.Bin{Code: code, Zone: zone, Kind: number(kind), Aisle: 5, Place: 6, Volume: n[0], Weight: n[1], Frozen: frozen}
}

// keyOf makes a key of a word like "d/nut/a/1": a bin, an item, a lot and a status.
func keyOf(w string) api.Key {
	f := strings.Split(w, "/")
	return api.Key{Bin: f[0], Item: f[1], Lot: f[2], Status: number(f[3])}
}

// quantOf makes a quant of a word like "d/nut/a/1=5,2": a key, how much, and how much of that is held.
func quantOf(w string) api.Quant {
	key, both, _ := strings.Cut(w, "=")
	n := numbers(both, 2)
	return api.Quant{Key: keyOf(key), Qty: n[0], Held: n[1]}
}

// ruleOf makes a rule of a word like "nut/z/1": an item (none: any), a zone and a rank.
func ruleOf(w string) api.Rule {
	f := strings.Split(w, "/")
	return api.Rule{Item: f[0], Zone: f[1], Rank: number(f[2])}
}

// lineFrom makes a line of a word like "nut=20,3": an item, and its numbers from Asked and Done on. "-" is a line that is not in use.
func lineFrom(w string) api.Line {
	if w == "-" {
		return api.Line{}
	}
	item, all, _ := strings.Cut(w, "=")
	n := numbers(all, 5)
	return api.Line{Item: item, Asked: n[0], Done: n[1], Back: n[2], Packed: n[3], Out: n[4]}
}

// linesOf makes the lines of a notice of words.
func linesOf(text string) (lines [api.MaxLines]api.Line) {
	l := listOf(text, lineFrom)
	if len(l) > len(lines) {
		panic(text)
	}
	copy(lines[:], l)
	return lines
}

// noticeOf makes a notice of words like "n/s nut=20 milk=5": a code, a site and lines. With ! behind the site, it is shut.
func noticeOf(text string) api.Notice {
	name, lines, _ := strings.Cut(text, " ")
	name, shut := strings.CutSuffix(name, "!")
	code, site, _ := strings.Cut(name, "/")
	return api.Notice{Code: code, Site: site, Lines: linesOf(lines), Shut: shut}
}

// noticesOf makes notices of words, with ; between them.
func noticesOf(text string) []api.Notice {
	var l []api.Notice
	for t := range strings.SplitSeq(text, ";") {
		if t := strings.TrimSpace(t); t != "" {
			l = append(l, noticeOf(t))
		}
	}
	return l
}

// totalOf makes a total of a word like "nut/a=6,2,1,-1": an item, a lot, and its counters from In on.
func totalOf(w string) api.Total {
	name, all, _ := strings.Cut(w, "=")
	item, lot, _ := strings.Cut(name, "/")
	n := numbers(all, 4)
	return api.Total{Item: item, Lot: lot, In: n[0], Out: n[1], Back: n[2], Fixed: n[3]}
}

// cameOf makes what comes of words like "n nut box 1 a d": a notice, an item, a unit, how many, a lot and a dock. "-" is the empty text.
func cameOf(text string) Came {
	f := strings.Fields(text)
	for i, w := range f {
		if w == "-" {
			f[i] = ""
		}
	}
	return Came{Notice: f[0], Item: f[1], Unit: f[2], N: number(f[3]), Lot: f[4], Dock: f[5]}
}

// words is a house in words.
type words struct{ items, lots, zones, bins, quants, rules, notices, totals string }

// house is the house of words, with something in each other list.
func (w words) house() api.House {
	k := api.Key{Bin: "d", Item: "nut", Status: api.Free}
	return api.House{
		Items: listOf(w.items, itemOf), Lots: listOf(w.lots, lotOf), Zones: listOf(w.zones, zoneOf), Bins: listOf(w.bins, binOf),
		Quants: listOf(w.quants, quantOf), Rules: listOf(w.rules, ruleOf), Notices: noticesOf(w.notices), Totals: listOf(w.totals, totalOf),
		Orders:  []api.Order{{Code: "n", Site: "s", Lines: linesOf("nut=3")}},
		Claims:  []api.Claim{{Order: "n", Line: 1, Key: k, Qty: 3, Task: 7}},
		Tasks:   []api.Task{{Number: 7, Kind: api.Pick, Order: "n", From: k, To: "c", Qty: 3}},
		Parcels: []api.Parcel{{Bin: "k", Order: "n"}},
		Sent:    []api.Sent{{Order: "n", Item: "nut", Qty: 2, Back: 1}},
		Counted: []api.Counted{{Key: k, Qty: 4}}, LastTask: 7,
	}
}

// usual is a house with a few things of each sort: docks d and e at the site s, a frozen one, one at the site t, and bins of the other kinds.
func usual() words {
	return words{
		items:   "bolt=2,3 milk=1,0:lc nut=1,1 pill=1,1:c pump=1,1:ls tile=0,0",
		lots:    "milk/a milk/b pump/1 pump/2",
		zones:   "w/t y/s z/s",
		bins:    "c/z=99,99#3 d/z=99,99 e/y=99,99 f/z=99,99! g/w=99,99 k/z=99,99#4 s/z=50,50#1 t/w=50,50#1 u/y=20,20#1",
		rules:   "/w/0 /z/1 nut/y/1",
		notices: "n/s - nut=20 milk=30 - pump=2 pill=5; o/s! nut=20; p/t nut=20,19",
		totals:  "bolt/=9",
	}
}

// emptyLists makes each empty list of a house nil: which of both it is makes no difference.
func emptyLists(h api.House) api.House {
	v := reflect.ValueOf(&h).Elem()
	for i := range v.NumField() {
		if f := v.Field(i); f.Kind() == reflect.Slice && f.Len() == 0 {
			f.SetZero()
		}
	}
	return h
}

// same checks two houses, all of their lists.
func same(t *testing.T, what string, got, want api.House) {
	t.Helper()
	if got, want := emptyLists(got), emptyLists(want); !reflect.DeepEqual(got, want) {
		t.Errorf("%s is %+v, want %+v", what, got, want)
	}
}

// errno checks an error.
func errno(t *testing.T, what string, got, want api.Errno) {
	t.Helper()
	if got != want {
		t.Errorf("%s = %d, want %d", what, int(got), int(want))
	}
}

// outcome checks what a call answered: an error and an empty house, or a house.
func outcome(t *testing.T, what string, g api.House, e api.Errno, then api.House, want api.Errno) {
	t.Helper()
	errno(t, what, e, want)
	if want != api.OK {
		then = zero
	}
	same(t, what+": the house", g, then)
}

// fault spoils what a call is given; want is the error that a promise then names.
type fault[T any] struct {
	name  string
	spoil func(a *T)
	want  api.Errno
}

// firstErrors makes each set of faults of something that is sound, and checks that a call answers the error of the first one in the order of its promise.
func firstErrors[T any](t *testing.T, what string, sound func() T, call func(a T) api.Errno, faults ...fault[T]) {
	t.Helper()
	for set := range 1 << len(faults) {
		a, want := sound(), api.OK
		var names []string
		// The first fault comes last, so that no other one takes it away.
		for i := len(faults) - 1; i >= 0; i-- {
			if set>>i&1 == 1 {
				faults[i].spoil(&a)
				names = append(names, faults[i].name)
				want = faults[i].want
			}
		}
		errno(t, what+" with these faults: "+strings.Join(names, ", "), call(a), want)
	}
}
