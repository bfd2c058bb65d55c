package alloc

import (
	"slices"
	"strconv"
	"strings"
	"testing"

	"stevedore/api"
)

// withOrders is the empty house with these orders, and some stock.
func withOrders(l ...api.Order) api.House {
	h := with("a/nut//1=5,2", "", "m/0/a/nut//1=2").house()
	h.Orders = l
	return h
}

// orders checks what Order answers of an order in a house: an error, or the house with these orders.
func orders(t *testing.T, why string, h api.House, x api.Order, want api.Errno, then ...api.Order) {
	t.Helper()
	g, e := Order(h, x)
	after := h
	after.Orders = then
	outcome(t, why, g, e, after, want)
}

// TestOrder: P16.1, each error, and where an order goes that is added.
func TestOrder(t *testing.T) {
	for _, c := range []struct {
		why, orders, x string
		want           api.Errno
		then           string
	}{
		{"the first order", "", "o/s nut=20", api.OK, "o/s nut=20"},
		{"lines between others", "", "o/s - nut=20 - milk=1000000000 - - - pin=1", api.OK, "o/s - nut=20 - milk=1000000000 - - - pin=1"},
		{"eight lines", "", "o/s tape=8 rope=7 pin=6 pen=5 oil=4 nut=3 milk=2 bolt=1", api.OK, "o/s tape=8 rope=7 pin=6 pen=5 oil=4 nut=3 milk=2 bolt=1"},
		{"the last line alone", "", "o/s - - - - - - - nut=1", api.OK, "o/s - - - - - - - nut=1"},
		{"a site of one zone", "", "o/t nut=20", api.OK, "o/t nut=20"},
		{"what is not in stock", "", "o/t pin=1000000000", api.OK, "o/t pin=1000000000"},
		{"ahead of another", "p/t nut=5", "o/s nut=20", api.OK, "o/s nut=20; p/t nut=5"},
		{"behind another", "m/t nut=5", "o/s nut=20", api.OK, "m/t nut=5; o/s nut=20"},
		{"between others", "m/t nut=5; q/s nut=6,6,5,4,3", "o/s nut=20", api.OK, "m/t nut=5; o/s nut=20; q/s nut=6,6,5,4,3"},
		{"byte by byte", "O/s nut=1; oo/s nut=1", "o/s nut=20", api.OK, "O/s nut=1; o/s nut=20; oo/s nut=1"},
		{"the code of an item", "", "nut/s nut=20", api.OK, "nut/s nut=20"},
		{"orders in no order", "q/s nut=1; a/s nut=2; r/s nut=3", "o/s nut=20", api.OK, "o/s nut=20; q/s nut=1; a/s nut=2; r/s nut=3"},
		{"orders in no order, none greater", "b/s nut=1; a/s nut=2", "o/s nut=20", api.OK, "b/s nut=1; a/s nut=2; o/s nut=20"},
		{"another order twice", "m/s nut=1; m/t nut=2", "o/s nut=20", api.OK, "m/s nut=1; m/t nut=2; o/s nut=20"},

		{"no code", "", "/s nut=20", api.ErrName, ""},
		{"a code that is too long", "", "ABCDEFGHIJKLM/s nut=20", api.ErrText, ""},
		{"a site that is not there", "", "o/r nut=20", api.ErrNone, ""},
		{"no site", "", "o/ nut=20", api.ErrNone, ""},
		{"a zone as a site", "", "o/z nut=20", api.ErrNone, ""},
		{"a bin as a site", "", "o/a nut=20", api.ErrNone, ""},
		{"a site in another case", "", "o/S nut=20", api.ErrNone, ""},
		{"a site that begins alike", "", "o/ss nut=20", api.ErrNone, ""},
		{"a site that an order alone has", "m/r nut=1", "o/r nut=20", api.ErrNone, ""},
		{"no line", "", "o/s", api.ErrNone, ""},
		{"a number without an item", "", "o/s nut=20 =1", api.ErrNum, ""},
		{"an item that is not there", "", "o/s wine=20", api.ErrNone, ""},
		{"an item twice", "", "o/s nut=20 nut=1", api.ErrThere, ""},
		{"nothing asked", "", "o/s nut=0", api.ErrQty, ""},
		{"less than nothing asked", "", "o/s nut=-1", api.ErrQty, ""},
		{"too much asked", "", "o/s nut=1000000001", api.ErrQty, ""},
		{"some done", "", "o/s nut=20,1", api.ErrNum, ""},
		{"some back", "", "o/s nut=20,0,1", api.ErrNum, ""},
		{"some packed", "", "o/s nut=20,0,0,1", api.ErrNum, ""},
		{"some out", "", "o/s nut=20,0,0,0,1", api.ErrNum, ""},
		{"the last line wrong", "", "o/s tape=8 rope=7 pin=6 pen=5 oil=4 nut=3 milk=2 bolt=0", api.ErrQty, ""},
		{"there", "o/s nut=20", "o/s nut=20", api.ErrThere, ""},
		{"there, with other lines and another site", "o/t milk=1", "o/s nut=20", api.ErrThere, ""},
		{"there, and picked", "o/s nut=20,20", "o/s nut=20", api.ErrThere, ""},
		{"there, the last one in no order", "p/s nut=1; a/s nut=2; o/s nut=3", "o/s nut=20", api.ErrThere, ""},
	} {
		h, x := withOrders(ordersOf(c.orders)...), orderOf(c.x)
		orders(t, c.why, h, x, c.want, ordersOf(c.then)...)
		same(t, c.why+": the house that was passed", h, withOrders(ordersOf(c.orders)...))
		if x != orderOf(c.x) {
			t.Errorf("%s: the order that was passed is %+v", c.why, x)
		}
	}
}

// TestCode: P16.1, an order's code must be a name.
func TestCode(t *testing.T) {
	for _, c := range []struct {
		code string
		want api.Errno
	}{
		{"!", api.OK}, {"~", api.OK}, {"o", api.OK}, {"a/b", api.OK}, {strings.Repeat("~", 11), api.OK}, {strings.Repeat("~", 12), api.OK},
		{"", api.ErrName}, {" ", api.ErrName}, {"a b", api.ErrName}, {"\x7f", api.ErrName}, {"\xff", api.ErrName}, {"é", api.ErrName}, {"a\n", api.ErrName}, {strings.Repeat("a", 11) + " ", api.ErrName},
		{strings.Repeat("a", 13), api.ErrText}, {strings.Repeat(" ", 300), api.ErrText},
	} {
		x := orderOf("o/s nut=20")
		x.Code = c.code
		orders(t, "the code "+strconv.Quote(c.code), withOrders(), x, c.want, x)
	}
}

// TestSite: P16.1, any zone of the site will do, and the empty site is one if a zone has it.
func TestSite(t *testing.T) {
	for _, c := range []struct {
		zones, site string
		want        api.Errno
	}{
		{"z/s", "s", api.OK}, {"x/t y/t z/s", "s", api.OK}, {"x/s y/t z/t", "s", api.OK}, {"z/t x/s y/s", "s", api.OK},
		{"z/", "", api.OK}, {"y/s z/", "", api.OK}, {"z/s z/t", "t", api.OK},
		{"", "s", api.ErrNone}, {"", "", api.ErrNone}, {"z/s", "", api.ErrNone}, {"z/", "s", api.ErrNone}, {"s/t", "s", api.ErrNone}, {"z/ss", "s", api.ErrNone},
	} {
		h := withOrders()
		h.Zones = listOf(c.zones, zoneOf)
		x := orderOf("o/" + c.site + " nut=20")
		orders(t, "the site "+strconv.Quote(c.site)+" with the zones "+c.zones, h, x, c.want, x)
	}
}

// manyOrders is so many orders, whose codes lie behind o.
func manyOrders(n int) []api.Order {
	var l []api.Order
	for i := range n {
		l = append(l, orderOf("q"+strconv.Itoa(1000+i)+"/s nut=5,"+strconv.Itoa(i)))
	}
	return l
}

// TestFullOrders: P16.1, how many orders a house may have.
func TestFullOrders(t *testing.T) {
	for _, n := range []int{0, 1, 30, 31, 32, 33, 64, 300} {
		want := api.OK
		if n >= 32 {
			want = api.ErrFull
		}
		l := manyOrders(n)
		what := strconv.Itoa(n) + " orders"
		x := orderOf("o/s nut=20")
		orders(t, what, withOrders(l...), x, want, append([]api.Order{x}, l...)...)
		if n > 0 {
			orders(t, what+", and one of the code", withOrders(l...), orderOf(l[n-1].Code+"/s nut=20"), api.ErrThere)
		}
	}
}

// TestFillUp: P16.1, orders that are added in any order stand sorted, while a house fills up; one that is dropped makes room.
func TestFillUp(t *testing.T) {
	h := withOrders()
	var all []api.Order
	for i := range 32 {
		x := orderOf("o" + strconv.Itoa(100+i*13%32) + "/s - nut=" + strconv.Itoa(i+1) + " milk=1")
		all = append(all, x)
		slices.SortFunc(all, func(a, b api.Order) int { return strings.Compare(a.Code, b.Code) })
		orders(t, "order "+strconv.Itoa(i), h, x, api.OK, all...)
		h, _ = Order(h, x)
	}
	orders(t, "one more", h, orderOf("x/s nut=1"), api.ErrFull)
	h, e := Drop(h, "o131")
	errno(t, "Drop", e, api.OK)
	orders(t, "one more where one was dropped", h, orderOf("x/s nut=1"), api.OK, append(all[:31:31], orderOf("x/s nut=1"))...)
}

// ordered is a house and an order that is added there.
type ordered struct {
	h api.House
	x api.Order
}

// TestFirstErrorOfOrder: P16.1 and R1, of several errors the first one that the promise names, for each set of them.
func TestFirstErrorOfOrder(t *testing.T) {
	sound := func() ordered { return ordered{withOrders(ordersOf("m/s nut=1")...), orderOf("o/s nut=20")} }
	call := func(a ordered) (api.House, api.Errno) { return Order(a.h, a.x) }
	site := fault[ordered]{"no site", func(a *ordered) { a.x.Site = "r" }, api.ErrNone}
	there := fault[ordered]{"there", func(a *ordered) { a.h.Orders[0].Code = a.x.Code }, api.ErrThere}
	full := fault[ordered]{"full", func(a *ordered) { a.h.Orders = append(a.h.Orders, manyOrders(31)...) }, api.ErrFull}
	for _, code := range []fault[ordered]{
		{"no name", func(a *ordered) { a.x.Code = "" }, api.ErrName},
		{"a name that is too long", func(a *ordered) { a.x.Code = "ABCDEFGHIJKLM" }, api.ErrText},
	} {
		for _, lines := range []fault[ordered]{
			{"no line", func(a *ordered) { a.x.Lines = orderOf("o/s").Lines }, api.ErrNone},
			{"no item", func(a *ordered) { a.x.Lines = orderOf("o/s wine=1").Lines }, api.ErrNone},
			{"an item twice", func(a *ordered) { a.x.Lines = orderOf("o/s nut=1 nut=1").Lines }, api.ErrThere},
			{"nothing asked", func(a *ordered) { a.x.Lines = orderOf("o/s nut=0").Lines }, api.ErrQty},
			{"some done", func(a *ordered) { a.x.Lines = orderOf("o/s nut=1,1").Lines }, api.ErrNum},
		} {
			firstErrors(t, "Order", sound, call, code, site, lines, there, full)
		}
	}
}

// TestOrderOfEmptyHouse: P16.1, a house without anything has no site.
func TestOrderOfEmptyHouse(t *testing.T) {
	for x, want := range map[string]api.Errno{"o/s nut=1": api.ErrNone, "o/": api.ErrNone, "/": api.ErrName} {
		g, e := Order(zero, orderOf(x))
		outcome(t, "Order of "+x, g, e, zero, want)
	}
	g, e := Order(zero, api.Order{})
	outcome(t, "Order of an empty order", g, e, zero, api.ErrName)
}
