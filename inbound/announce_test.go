package inbound

import (
	"slices"
	"strconv"
	"strings"
	"testing"

	"stevedore/api"
)

// withNotices is the usual house with these notices.
func withNotices(l ...api.Notice) api.House {
	h := usual().house()
	h.Notices = l
	return h
}

// announces checks what Announce answers of a notice in a house: an error, or the house with these notices.
func announces(t *testing.T, why string, h api.House, x api.Notice, want api.Errno, notices ...api.Notice) {
	t.Helper()
	then := h
	then.Notices = notices
	g, e := Announce(h, x)
	outcome(t, why, g, e, then, want)
}

// TestAnnounce: P14.2, each error, and where a notice goes that is added.
func TestAnnounce(t *testing.T) {
	for _, c := range []struct {
		why, notices, x string
		want            api.Errno
		then            string
	}{
		{"the first notice", "", "n/s nut=20", api.OK, "n/s nut=20"},
		{"lines between others", "", "n/s - nut=20 - milk=1000000000 - - - pump=1", api.OK, "n/s - nut=20 - milk=1000000000 - - - pump=1"},
		{"a site of one zone", "", "n/t nut=20", api.OK, "n/t nut=20"},
		{"ahead of another", "p/t nut=5", "n/s nut=20", api.OK, "n/s nut=20; p/t nut=5"},
		{"behind another", "m/t nut=5", "n/s nut=20", api.OK, "m/t nut=5; n/s nut=20"},
		{"between others", "m/t nut=5; o/s! nut=6,6", "n/s nut=20", api.OK, "m/t nut=5; n/s nut=20; o/s! nut=6,6"},
		{"byte by byte", "N/s nut=1; nn/s nut=1", "n/s nut=20", api.OK, "N/s nut=1; n/s nut=20; nn/s nut=1"},
		{"the longest code", "", "ABCDEFGHIJKL/s nut=20", api.OK, "ABCDEFGHIJKL/s nut=20"},
		{"notices in no order", "p/s nut=1; a/s nut=2; q/s nut=3", "n/s nut=20", api.OK, "n/s nut=20; p/s nut=1; a/s nut=2; q/s nut=3"},
		{"notices in no order, none greater", "b/s nut=1; a/s nut=2", "n/s nut=20", api.OK, "b/s nut=1; a/s nut=2; n/s nut=20"},
		{"another notice twice", "m/s nut=1; m/t nut=2", "n/s nut=20", api.OK, "m/s nut=1; m/t nut=2; n/s nut=20"},
		{"a site as a code", "", "s/s nut=20", api.OK, "s/s nut=20"},

		{"no code", "", "/s nut=20", api.ErrName, ""},
		{"a code that is too long", "", "ABCDEFGHIJKLM/s nut=20", api.ErrText, ""},
		{"a site that is not there", "", "n/r nut=20", api.ErrNone, ""},
		{"no site", "", "n/ nut=20", api.ErrNone, ""},
		{"a zone as a site", "", "n/z nut=20", api.ErrNone, ""},
		{"a bin as a site", "", "n/d nut=20", api.ErrNone, ""},
		{"a site in another case", "", "n/S nut=20", api.ErrNone, ""},
		{"a site that begins alike", "", "n/ss nut=20", api.ErrNone, ""},
		{"a site that a notice alone has", "m/r nut=1", "n/r nut=20", api.ErrNone, ""},
		{"no line", "", "n/s", api.ErrNone, ""},
		{"a number without an item", "", "n/s nut=20 =1", api.ErrNum, ""},
		{"an item that is not there", "", "n/s wine=20", api.ErrNone, ""},
		{"an item twice", "", "n/s nut=20 nut=1", api.ErrThere, ""},
		{"nothing asked", "", "n/s nut=0", api.ErrQty, ""},
		{"less than nothing asked", "", "n/s nut=-1", api.ErrQty, ""},
		{"too much asked", "", "n/s nut=1000000001", api.ErrQty, ""},
		{"some done", "", "n/s nut=20,1", api.ErrNum, ""},
		{"some out", "", "n/s nut=20,0,0,0,1", api.ErrNum, ""},
		{"shut", "", "n/s! nut=20", api.ErrState, ""},
		{"there", "n/s nut=20", "n/s nut=20", api.ErrThere, ""},
		{"there, with other lines and another site", "n/t milk=1", "n/s nut=20", api.ErrThere, ""},
		{"there, and shut", "n/s! nut=20", "n/s nut=20", api.ErrThere, ""},
		{"there, the last one in no order", "p/s nut=1; a/s nut=2; n/s nut=3", "n/s nut=20", api.ErrThere, ""},
	} {
		h, x := withNotices(noticesOf(c.notices)...), noticeOf(c.x)
		announces(t, c.why, h, x, c.want, noticesOf(c.then)...)
		same(t, c.why+": the house that was passed", h, withNotices(noticesOf(c.notices)...))
		if x != noticeOf(c.x) {
			t.Errorf("%s: the notice that was passed is %+v", c.why, x)
		}
	}
}

// TestCode: P14.2, a notice's code must be a name.
func TestCode(t *testing.T) {
	for _, c := range []struct {
		code string
		want api.Errno
	}{
		{"!", api.OK}, {"~", api.OK}, {"a/b", api.OK}, {strings.Repeat("~", 12), api.OK},
		{" ", api.ErrName}, {"a b", api.ErrName}, {"\x7f", api.ErrName}, {"\xff", api.ErrName}, {"é", api.ErrName}, {"a\n", api.ErrName},
		{strings.Repeat("a", 13), api.ErrText}, {strings.Repeat(" ", 300), api.ErrText},
	} {
		x := noticeOf("n/s nut=20")
		x.Code = c.code
		announces(t, "the code "+strconv.Quote(c.code), withNotices(), x, c.want, x)
	}
}

// manyNotices is so many notices, whose codes lie behind n.
func manyNotices(n int) []api.Notice {
	var l []api.Notice
	for i := range n {
		l = append(l, noticeOf("q"+strconv.Itoa(1000+i)+"/s nut=5,"+strconv.Itoa(i)))
	}
	return l
}

// TestFull: P14.2, how many notices a house may have, those that are shut among them.
func TestFull(t *testing.T) {
	for _, n := range []int{0, 1, 30, 31, 32, 33, 64, 300} {
		want := api.OK
		if n >= 32 {
			want = api.ErrFull
		}
		for _, shut := range []bool{false, true} {
			l := manyNotices(n)
			for i := range l {
				l[i].Shut = shut
			}
			what := strconv.Itoa(n) + " notices"
			x := noticeOf("n/s nut=20")
			announces(t, what, withNotices(l...), x, want, append([]api.Notice{x}, l...)...)
			if n > 0 {
				announces(t, what+", and one of the code", withNotices(l...), noticeOf(l[n-1].Code+"/s nut=20"), api.ErrThere)
			}
		}
	}
}

// TestFillUp: P14.2, notices that are announced in any order stand sorted, while a house fills up.
func TestFillUp(t *testing.T) {
	h := withNotices()
	var all []api.Notice
	for i := range 32 {
		x := noticeOf("n" + strconv.Itoa(100+i*13%32) + "/s - nut=" + strconv.Itoa(i+1) + " milk=1")
		all = append(all, x)
		slices.SortFunc(all, func(a, b api.Notice) int { return strings.Compare(a.Code, b.Code) })
		announces(t, "notice "+strconv.Itoa(i), h, x, api.OK, all...)
		h, _ = Announce(h, x)
	}
	announces(t, "one more", h, noticeOf("x/s nut=1"), api.ErrFull)
	g, e := Shut(h, "n100")
	errno(t, "Shut", e, api.OK)
	announces(t, "one more, beside one that is shut", g, noticeOf("x/s nut=1"), api.ErrFull)
}

// announced is a house and a notice that is announced there.
type announced struct {
	h api.House
	x api.Notice
}

// TestFirstErrorOfAnnounce: P14.2 and R1, of several errors the first one that the promise names, for each set of them.
func TestFirstErrorOfAnnounce(t *testing.T) {
	sound := func() announced { return announced{withNotices(noticesOf("m/s nut=1")...), noticeOf("n/s nut=20")} }
	call := func(a announced) api.Errno {
		g, e := Announce(a.h, a.x)
		if e != api.OK {
			same(t, "the house beside the error", g, zero)
		}
		return e
	}
	site := fault[announced]{"no site", func(a *announced) { a.x.Site = "r" }, api.ErrNone}
	shut := fault[announced]{"shut", func(a *announced) { a.x.Shut = true }, api.ErrState}
	there := fault[announced]{"there", func(a *announced) { a.h.Notices[0].Code = a.x.Code }, api.ErrThere}
	full := fault[announced]{"full", func(a *announced) { a.h.Notices = append(a.h.Notices, manyNotices(31)...) }, api.ErrFull}
	for _, w := range wrongLines() {
		for _, code := range []fault[announced]{
			{"no code", func(a *announced) { a.x.Code = "" }, api.ErrName},
			{"a code that is too long", func(a *announced) { a.x.Code = "ABCDEFGHIJKLM" }, api.ErrText},
		} {
			lines := fault[announced]{"a wrong line", func(a *announced) { a.x.Lines[5] = w.line }, w.want}
			firstErrors(t, "Announce", sound, call, code, site, lines, shut, there, full)
		}
	}
	none := fault[announced]{"no line", func(a *announced) { a.x.Lines = linesOf("") }, api.ErrNone}
	firstErrors(t, "Announce", sound, call, none, shut, there, full)
}

// TestAnnounceAny: P14.2, neither a house's zones nor its sites need be such as commands make.
func TestAnnounceAny(t *testing.T) {
	for _, site := range []string{"", " ", "a b", "\xff", "\x00", strings.Repeat("x", 300)} {
		x := api.Notice{Code: "n", Site: site, Lines: linesOf("nut=1")}
		h := usual().house()
		h.Notices = nil
		h.Zones = []api.Zone{{Code: "y", Site: "other"}, {Code: "z", Site: site}, {Code: "a"}}
		announces(t, "the site "+strconv.Quote(site), h, x, api.OK, x)
		h.Zones = []api.Zone{{Code: site, Site: "other"}, {Code: "z", Site: site + "."}}
		announces(t, "no site "+strconv.Quote(site), h, x, api.ErrNone)
		h.Zones = nil
		announces(t, "no zone, and the site "+strconv.Quote(site), h, x, api.ErrNone)
	}
	announces(t, "a house without anything", zero, noticeOf("n/s nut=1"), api.ErrNone)
	announces(t, "a house without anything, and an empty notice", zero, api.Notice{}, api.ErrName)
}

// shuts checks what Shut answers in a house with notices, in words: an error, or the house with others.
func shuts(t *testing.T, why, notices, code string, want api.Errno, then string) {
	t.Helper()
	h := withNotices(noticesOf(notices)...)
	g, e := Shut(h, code)
	outcome(t, why, g, e, withNotices(noticesOf(then)...), want)
	same(t, why+": the house that was passed", h, withNotices(noticesOf(notices)...))
}

// TestShut: P14.4, a notice is shut once, whatever came of it.
func TestShut(t *testing.T) {
	shuts(t, "nothing came", "n/s nut=20", "n", api.OK, "n/s! nut=20")
	shuts(t, "some came", "n/s - nut=20,5 milk=3,3", "n", api.OK, "n/s! - nut=20,5 milk=3,3")
	shuts(t, "all came", "n/s nut=20,20", "n", api.OK, "n/s! nut=20,20")
	shuts(t, "more than all, and other numbers", "n/s nut=20,21,3,4,5 =6", "n", api.OK, "n/s! nut=20,21,3,4,5 =6")
	shuts(t, "no line, and a site that is not there", "n/r", "n", api.OK, "n/r!")
	shuts(t, "at another site", "m/s nut=1; n/t nut=20", "n", api.OK, "m/s nut=1; n/t! nut=20")
	shuts(t, "among others", "m/s nut=1; n/s nut=20; o/s! nut=1; p/t nut=1", "n", api.OK, "m/s nut=1; n/s! nut=20; o/s! nut=1; p/t nut=1")
	shuts(t, "the first", "m/s nut=1; n/s nut=20", "m", api.OK, "m/s! nut=1; n/s nut=20")
	shuts(t, "the last", "m/s nut=1; n/s nut=20", "n", api.OK, "m/s nut=1; n/s! nut=20")
	shuts(t, "in no order", "p/s nut=1; a/s nut=2; n/s nut=20; b/s nut=3", "n", api.OK, "p/s nut=1; a/s nut=2; n/s! nut=20; b/s nut=3")
	shuts(t, "twice: the first one", "n/s nut=20; n/t nut=5", "n", api.OK, "n/s! nut=20; n/t nut=5")
	shuts(t, "twice: the second one is shut", "n/s nut=20; n/t! nut=5", "n", api.OK, "n/s! nut=20; n/t! nut=5")

	shuts(t, "twice: the first one is shut", "n/s! nut=20; n/t nut=5", "n", api.ErrState, "")
	shuts(t, "shut", "n/s! nut=20", "n", api.ErrState, "")
	shuts(t, "shut, among others", "m/s nut=1; n/s! nut=20", "n", api.ErrState, "")
	shuts(t, "no notices", "", "n", api.ErrNone, "")
	shuts(t, "not there", "m/s nut=1; o/s! nut=1", "n", api.ErrNone, "")
	shuts(t, "no code", "n/s nut=20", "", api.ErrNone, "")
	shuts(t, "another case", "n/s nut=20", "N", api.ErrNone, "")
	shuts(t, "a code that begins alike", "n/s nut=20", "nn", api.ErrNone, "")
	shuts(t, "a space ahead", "n/s nut=20", " n", api.ErrNone, "")
	shuts(t, "a site", "n/s nut=20", "s", api.ErrNone, "")
	shuts(t, "a code that is too long", "n/s nut=20", strings.Repeat("n", 300), api.ErrNone, "")
	shuts(t, "a notice without a code", "/s nut=20", "", api.OK, "/s! nut=20")

	g, e := Shut(zero, "")
	outcome(t, "a house without anything", g, e, zero, api.ErrNone)
}

// TestShutTwice: P14.4, what Shut made is shut, and only that.
func TestShutTwice(t *testing.T) {
	h := withNotices(manyNotices(32)...)
	for i, x := range h.Notices {
		then := withNotices(slices.Clone(h.Notices)...)
		then.Notices[i].Shut = true
		g, e := Shut(h, x.Code)
		outcome(t, "Shut of "+x.Code, g, e, then, api.OK)
		h = g
		g, e = Shut(h, x.Code)
		outcome(t, "Shut of "+x.Code+" again", g, e, zero, api.ErrState)
	}
}
