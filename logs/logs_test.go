package logs

import (
	"maps"
	"math"
	"slices"
	"strconv"
	"strings"
	"testing"

	"stevedore/api"
	"stevedore/frames"
	"stevedore/media"
)

// place is a sector of a file.
type place struct{ file, at int }

// junk is a sector that is none of a frame.
var junk = strings.Repeat("j", api.Sector)

// frame is one of so many sectors, whose bytes tell its number.
func frame(number, sectors int) Frame {
	text := strings.Repeat(strconv.Itoa(number)+",", 55*sectors)
	return Frame{number, text[:55*sectors-number%3]}
}

// framesOf is frames of so many sectors each, numbered on from the first.
func framesOf(first int, sectors ...int) []Frame {
	var out []Frame
	for i, n := range sectors {
		out = append(out, frame(first+i, n))
	}
	return out
}

// told is the numbers of frames, and how many bytes they have.
func told(fs []Frame) string {
	var out []string
	for _, f := range fs {
		out = append(out, strconv.Itoa(f.Number)+":"+strconv.Itoa(len(f.Data)))
	}
	return "[" + strings.Join(out, " ") + "]"
}

// times is n times the same number.
func times(n, what int) []int { return slices.Repeat([]int{what}, n) }

// sectorsOf is the sectors of a frame.
func sectorsOf(t *testing.T, f Frame) []string {
	t.Helper()
	sectors, e := frames.Lay(f.Number, f.Data)
	if e != api.OK {
		t.Fatalf("Lay(%d): error %d", f.Number, int(e))
	}
	return sectors
}

// put writes sectors from a place on, which must go well.
func put(t *testing.T, m *media.Media, file, at int, sectors ...string) {
	t.Helper()
	for i, s := range sectors {
		if e := m.Write(file, at+i, s); e != api.OK {
			t.Fatalf("Write(%d, %d): error %d", file, at+i, int(e))
		}
	}
}

// lay writes frames one behind the other from a place on, as they come, whatever segments they leave.
func lay(t *testing.T, m *media.Media, file, at int, fs ...Frame) {
	t.Helper()
	for _, f := range fs {
		sectors := sectorsOf(t, f)
		put(t, m, file, at, sectors...)
		at += len(sectors)
	}
}

// contents is all that was written to a medium, and not removed.
func contents(t *testing.T, m *media.Media) map[place]string {
	t.Helper()
	all := map[place]string{}
	for _, file := range m.Files() {
		for at := range m.Size(file) {
			s, e := m.Read(file, at)
			if e == api.OK {
				all[place{file, at}] = s
			} else if e != api.ErrAbsent {
				t.Fatalf("Read(%d, %d): error %d", file, at, int(e))
			}
		}
	}
	return all
}

// copyOf is another medium with the same contents.
func copyOf(t *testing.T, m *media.Media) *media.Media {
	t.Helper()
	other := media.New()
	for p, s := range contents(t, m) {
		put(t, other, p.file, p.at, s)
	}
	return other
}

// open opens a log, which must go well and write nothing.
func open(t *testing.T, m *media.Media) (*Log, []Frame) {
	t.Helper()
	n := m.Writes()
	l, fs, e := Open(m)
	if e != api.OK || l == nil {
		t.Fatalf("Open = %v, %d", l, int(e))
	}
	if m.Writes() != n {
		t.Errorf("Open made %d raw writes", m.Writes()-n)
	}
	return l, fs
}

// appends appends the bytes of frames, which must get their numbers.
func appends(t *testing.T, l *Log, fs ...Frame) {
	t.Helper()
	for _, f := range fs {
		if n, e := l.Append(f.Data); n != f.Number || e != api.OK {
			t.Fatalf("Append = %d, %d, want %d", n, int(e), f.Number)
		}
	}
}

// built is a medium to which frames of so many sectors each were appended, and its log.
func built(t *testing.T, sectors ...int) (*media.Media, *Log) {
	t.Helper()
	m := media.New()
	l, _ := open(t, m)
	appends(t, l, framesOf(1, sectors...)...)
	return m, l
}

// grows checks that one Append writes just the sectors of the frame, from a place on.
func grows(t *testing.T, why string, m *media.Media, l *Log, f Frame, from place) {
	t.Helper()
	want := contents(t, m)
	for i, s := range sectorsOf(t, f) {
		want[place{from.file, from.at + i}] = s
	}
	n := m.Writes()
	if number, e := l.Append(f.Data); number != f.Number || e != api.OK {
		t.Errorf("%s: Append = %d, %d, want %d", why, number, int(e), f.Number)
	}
	if got := contents(t, m); !maps.Equal(got, want) {
		t.Errorf("%s: Append of frame %d wrote elsewhere than from %v on", why, f.Number, from)
	}
	if got := m.Writes() - n; got != len(sectorsOf(t, f)) {
		t.Errorf("%s: Append made %d raw writes", why, got)
	}
}

// finds checks what Open finds: the frames, the next number and, by what an Append to a copy writes, the tail.
func finds(t *testing.T, why string, m *media.Media, want []Frame, tail place, next int) {
	t.Helper()
	l, fs := open(t, m)
	if !slices.Equal(fs, want) {
		t.Errorf("%s: Open found %s, want %s", why, told(fs), told(want))
	}
	if got := l.Next(); got != next {
		t.Errorf("%s: Next = %d, want %d", why, got, next)
	}
	if tail.at == api.Segment {
		tail = place{tail.file + 1, 0}
	}
	if next <= math.MaxInt32 && tail.file <= 1048575 {
		other := copyOf(t, m)
		l, _ := open(t, other)
		grows(t, why, other, l, frame(next, 1), tail)
	}
}

// errno checks an error.
func errno(t *testing.T, what string, got, want api.Errno) {
	t.Helper()
	if got != want {
		t.Errorf("%s = error %d, want %d", what, int(got), int(want))
	}
}

// TestExamples: those of the chapter.
func TestExamples(t *testing.T) {
	m := media.New()
	l, fs := open(t, m)
	if len(fs) != 0 || l.Next() != 1 {
		t.Error(fs, l.Next())
	}
	data := strings.Repeat("x", 100)
	var want []Frame
	for i := range 12 {
		want = append(want, Frame{i + 1, data})
	}
	appends(t, l, want...)
	if m.Size(2) != 16 || m.Size(3) != 8 || l.Sectors() != 24 {
		t.Error(m.Size(2), m.Size(3), l.Sectors())
	}
	finds(t, "before Trim", m, want, place{3, 8}, 13)
	errno(t, "Trim(8)", l.Trim(8), api.OK)
	if !slices.Equal(m.Files(), []int{3}) || l.Sectors() != 8 {
		t.Error(m.Files(), l.Sectors())
	}
	finds(t, "behind Trim", m, want[8:], place{3, 8}, 13)
}

// TestOpenWrong: P5.1, its errors, beside which nothing is answered.
func TestOpenWrong(t *testing.T) {
	if l, fs, e := Open(nil); l != nil || fs != nil || e != api.ErrNil {
		t.Error(l, fs, int(e))
	}
	cut := func(m *media.Media) {
		m.Arm(0)
		errno(t, "Write", m.Write(9, 0, junk), api.ErrCut)
		for range 2 {
			if l, fs, e := Open(m); l != nil || fs != nil || e != api.ErrCut {
				t.Errorf("Open with the power off = %v, %v, %d", l, fs, int(e))
			}
		}
		m.On()
	}
	cut(media.New())
	old := media.New()
	put(t, old, 5, 3, junk)
	cut(old)
	m, _ := built(t, 1, 2, 8)
	cut(m)
	finds(t, "on again", m, framesOf(1, 1, 2, 8), place{2, 11}, 4)
}

// TestOpenArmed: P5.1, Open performs no raw write: it goes well with none left, and leaves those that are.
func TestOpenArmed(t *testing.T) {
	m, _ := built(t, 1, 2, 8)
	m.Arm(0)
	if _, fs := open(t, m); !slices.Equal(fs, framesOf(1, 1, 2, 8)) {
		t.Error(fs)
	}
	m.Arm(1)
	l, _ := open(t, m)
	appends(t, l, frame(4, 1))
	if n, e := l.Append(""); n != 0 || e != api.ErrCut {
		t.Error(n, int(e))
	}
}

// TestOpenEmpty: P5.1, media without segments: nothing at all, files 0 and 1 alone, and what was removed.
func TestOpenEmpty(t *testing.T) {
	finds(t, "no files", media.New(), nil, place{2, 0}, 1)
	finds(t, "a medium that New didn't make", new(media.Media), nil, place{2, 0}, 1)
	m := media.New()
	lay(t, m, 0, 0, framesOf(4, 1, 2)...)
	lay(t, m, 1, 0, framesOf(6, 1, 2)...)
	finds(t, "files 0 and 1", m, nil, place{2, 0}, 1)
	m, _ = built(t, 8, 8, 8)
	for _, segment := range []int{2, 3} {
		errno(t, "Remove", m.Remove(segment), api.OK)
	}
	finds(t, "removed files", m, nil, place{2, 0}, 1)
}

// TestOpenFirstSegment: P5.1, the first segment is the lowest file from 2 on, whatever it holds.
func TestOpenFirstSegment(t *testing.T) {
	for _, first := range []int{2, 3, 5, 100, 1048575} {
		m := media.New()
		lay(t, m, 0, 0, frame(7, 1))
		lay(t, m, 1, 0, frame(8, 1))
		lay(t, m, first, 0, framesOf(9, 1, 8, 2)...)
		finds(t, "frames", m, framesOf(9, 1, 8, 2), place{first, 11}, 12)
		for _, at := range []int{0, 1, 15, 16, 20, 65535} {
			m := media.New()
			put(t, m, first, at, junk)
			finds(t, "no frame", m, nil, place{first, 0}, 1)
			if first < 1048570 {
				lay(t, m, first+1, 0, frame(1, 1))
				lay(t, m, first+2, 0, frame(1, 1))
				finds(t, "frames in the next segment alone", m, nil, place{first, 0}, 1)
			}
		}
	}
}

// TestOpenFrames: P5.1, frames of 1 sector to 8, one behind the other, up to the end of a segment and into the next ones.
func TestOpenFrames(t *testing.T) {
	for _, c := range []struct {
		sectors []int
		tail    place
	}{
		{[]int{1}, place{2, 1}},
		{[]int{8}, place{2, 8}},
		{[]int{1, 8}, place{2, 9}},
		{[]int{8, 8}, place{2, 16}},
		{times(16, 1), place{2, 16}},
		{[]int{1, 2, 3, 4, 5}, place{2, 15}},
		{[]int{1, 2, 3, 4, 5, 1}, place{2, 16}},
		{[]int{1, 2, 3, 4, 5, 6, 7, 8}, place{4, 8}},
		{[]int{8, 8, 8}, place{3, 8}},
		{[]int{8, 7, 2}, place{3, 2}},
		{[]int{7, 7, 7, 7, 7, 7, 7}, place{5, 7}},
		{times(33, 1), place{4, 1}},
		{times(16, 8), place{9, 16}},
	} {
		m, _ := built(t, c.sectors...)
		finds(t, "appended", m, framesOf(1, c.sectors...), c.tail, len(c.sectors)+1)
	}
}

// TestOpenFirstNumber: P5.1, the first frame may have any number; the last number of all leaves no other.
func TestOpenFirstNumber(t *testing.T) {
	for _, first := range []int{1, 2, 9, 1 << 20, math.MaxInt32 - 3, math.MaxInt32 - 2} {
		m := media.New()
		lay(t, m, 4, 0, framesOf(first, 8, 8)...)
		lay(t, m, 5, 0, frame(first+2, 2))
		finds(t, "a number to begin with", m, framesOf(first, 8, 8, 2), place{5, 2}, first+3)
	}
	m := media.New()
	lay(t, m, 2, 0, frame(math.MaxInt32, 1))
	l, fs := open(t, m)
	if !slices.Equal(fs, framesOf(math.MaxInt32, 1)) || l.Next() != math.MaxInt32+1 {
		t.Error(fs, l.Next())
	}
	if n, e := l.Append(""); n != 0 || e != api.ErrFrame || m.Writes() != 1 {
		t.Error(n, int(e), m.Writes())
	}
}

// TestOpenAnyBytes: P5.1, the bytes of frames may be any, or none.
func TestOpenAnyBytes(t *testing.T) {
	m := media.New()
	l, _ := open(t, m)
	want := []Frame{{1, ""}, {2, "\x00"}, {3, strings.Repeat("\xff\x00", 220)}, {4, strings.Repeat("\x00", 55)}, {5, "é"}}
	appends(t, l, want...)
	finds(t, "bytes", m, want, place{2, 12}, 6)
}

// TestOpenEnds: P5.1, what ends the search.
func TestOpenEnds(t *testing.T) {
	two := framesOf(5, 2, 3)
	for why, behind := range map[string][]string{
		"the same number":              sectorsOf(t, frame(6, 1)),
		"a number left out":            sectorsOf(t, frame(8, 1)),
		"the number before":            sectorsOf(t, frame(5, 1)),
		"the first number":             sectorsOf(t, frame(1, 1)),
		"a far number":                 sectorsOf(t, frame(math.MaxInt32, 1)),
		"junk":                         {junk},
		"zeros":                        {strings.Repeat("\x00", 64)},
		"a frame without its last":     sectorsOf(t, frame(7, 3))[:2],
		"a frame without its first":    sectorsOf(t, frame(7, 3))[1:],
		"a torn frame of 8":            sectorsOf(t, frame(7, 8))[:7],
		"the next one, a sector on":    append([]string{junk}, sectorsOf(t, frame(7, 1))...),
		"a frame cut by another":       append(sectorsOf(t, frame(7, 2))[:1], sectorsOf(t, frame(7, 1))...),
		"what an earlier one has left": sectorsOf(t, frame(6, 5))[3:],
	} {
		m := media.New()
		lay(t, m, 2, 0, two...)
		put(t, m, 2, 5, behind...)
		finds(t, why, m, two, place{2, 5}, 7)
		// A gap in the file is no end: the next segment may go on.
		lay(t, m, 3, 0, framesOf(7, 4, 1)...)
		finds(t, why+", then the next segment", m, slices.Concat(two, framesOf(7, 4, 1)), place{3, 5}, 9)
	}
	m := media.New()
	lay(t, m, 2, 0, two...)
	lay(t, m, 2, 6, frame(7, 1))
	finds(t, "a sector that is absent", m, two, place{2, 5}, 7)
}

// TestOpenEndsInNextSegment: P5.1, the next segment goes on only with the next number, at its sector 0, and only the very next one.
func TestOpenEndsInNextSegment(t *testing.T) {
	full := framesOf(5, 8, 8)
	for why, c := range map[string]struct {
		file, at int
		sectors  []string
	}{
		"the same number":     {3, 0, sectorsOf(t, frame(6, 1))},
		"a number left out":   {3, 0, sectorsOf(t, frame(8, 1))},
		"the first number":    {3, 0, sectorsOf(t, frame(1, 1))},
		"junk":                {3, 0, []string{junk}},
		"a torn frame":        {3, 0, sectorsOf(t, frame(7, 8))[:7]},
		"the rest of a frame": {3, 0, sectorsOf(t, frame(7, 8))[1:]},
		"sector 1":            {3, 1, sectorsOf(t, frame(7, 1))},
		"the next but one":    {4, 0, sectorsOf(t, frame(7, 1))},
		"the file before":     {1, 0, sectorsOf(t, frame(7, 1))},
		"behind the segment":  {2, 16, sectorsOf(t, frame(7, 1))},
	} {
		m := media.New()
		lay(t, m, 2, 0, full...)
		put(t, m, c.file, c.at, c.sectors...)
		finds(t, why, m, full, place{2, 16}, 7)
	}
}

// TestOpenOverEnd: P5.1, a frame that doesn't lie wholly within its segment is none, wherever its other sectors stand.
func TestOpenOverEnd(t *testing.T) {
	for sectors := 2; sectors <= 8; sectors++ {
		for inside := 1; inside < sectors; inside++ {
			lead := framesOf(1, times(16-inside, 1)...)
			tail := place{2, 16 - inside}
			cut := frame(len(lead)+1, sectors)
			m := media.New()
			lay(t, m, 2, 0, append(lead, cut)...)
			finds(t, "on in its file", m, lead, tail, cut.Number)
			m = media.New()
			lay(t, m, 2, 0, lead...)
			put(t, m, 2, tail.at, sectorsOf(t, cut)[:inside]...)
			put(t, m, 3, 0, sectorsOf(t, cut)[inside:]...)
			finds(t, "on in the next segment", m, lead, tail, cut.Number)
			lay(t, m, 3, 0, cut)
			finds(t, "whole in the next segment", m, append(lead, cut), place{3, sectors}, cut.Number+1)
		}
	}
}

// TestOpenTailFirst: P5.1, where the next frame stands at the tail as well as in the next segment, that at the tail counts; then that segment doesn't go on.
func TestOpenTailFirst(t *testing.T) {
	m := media.New()
	lay(t, m, 2, 0, framesOf(1, 2, 3, 1)...)
	lay(t, m, 3, 0, framesOf(3, 8, 8)...)
	finds(t, "at the tail", m, framesOf(1, 2, 3, 1), place{2, 6}, 4)
	lay(t, m, 3, 0, frame(4, 7))
	finds(t, "then in the next segment", m, framesOf(1, 2, 3, 1, 7), place{3, 7}, 5)
}

// TestOpenLastFile: P5.1 and P5.2, no segment comes behind the last file: an Append that would go there fails, and writes nothing.
func TestOpenLastFile(t *testing.T) {
	m := media.New()
	lay(t, m, 1048575, 0, framesOf(1, 8, 7)...)
	finds(t, "the last file", m, framesOf(1, 8, 7), place{1048575, 15}, 3)
	before := contents(t, m)
	for range 3 {
		l, _ := open(t, m)
		if n, e := l.Append(bytesOf(56)); n != 0 || e != api.ErrSector {
			t.Error(n, int(e))
		}
		if !maps.Equal(contents(t, m), before) {
			t.Error("an Append behind the last file wrote something")
		}
	}
	l, _ := open(t, m)
	grows(t, "the last sector", m, l, frame(3, 1), place{1048575, 15})
	finds(t, "a full last file", m, framesOf(1, 8, 7, 1), place{1048575, 16}, 4)
}

// TestOpenAnswersApart: R2, the frames are the caller's; two logs of a medium have no memory in common.
func TestOpenAnswersApart(t *testing.T) {
	m, _ := built(t, 1, 2)
	_, one := open(t, m)
	_, other := open(t, m)
	one[0] = Frame{}
	_ = append(one[:1], Frame{})
	if !slices.Equal(other, framesOf(1, 1, 2)) {
		t.Error(other)
	}
	finds(t, "again", m, framesOf(1, 1, 2), place{2, 3}, 3)
}

// bytesOf is so many bytes.
func bytesOf(size int) string { return strings.Repeat("b", size) }

// TestAppendPlaces: P5.2, for each tail in a segment and each number of sectors: a frame goes behind the tail where it fits to the sector, otherwise to the next segment.
func TestAppendPlaces(t *testing.T) {
	for lead := range 17 {
		for sectors := 1; sectors <= 8; sectors++ {
			want := place{2, lead}
			if lead+sectors > 16 {
				want = place{3, 0}
			}
			m, l := built(t, times(lead, 1)...)
			f := frame(lead+1, sectors)
			grows(t, "appended", m, l, f, want)
			if got := l.Next(); got != lead+2 {
				t.Errorf("Next = %d", got)
			}
			next := place{want.file, want.at + sectors}
			finds(t, "then opened", m, append(framesOf(1, times(lead, 1)...), f), next, lead+2)
			if next.at == 16 {
				next = place{3, 0}
			}
			grows(t, "behind it", m, l, frame(lead+2, 1), next)
		}
	}
}

// TestAppendOpened: P5.2, a log that was opened goes on just as the one that wrote it.
func TestAppendOpened(t *testing.T) {
	sectors := []int{8, 3, 5, 1, 7, 8, 2, 2, 8, 6, 1, 1, 8, 4, 8, 8}
	m, _ := built(t, sectors...)
	other := media.New()
	for i, f := range framesOf(1, sectors...) {
		l, fs := open(t, other)
		if !slices.Equal(fs, framesOf(1, sectors[:i]...)) {
			t.Fatal(fs)
		}
		appends(t, l, f)
	}
	if !maps.Equal(contents(t, m), contents(t, other)) {
		t.Error("the media differ")
	}
}

// TestAppendSizes: P5.2, bytes of each length that a frame may have, and their sectors.
func TestAppendSizes(t *testing.T) {
	for size := range 441 {
		m, l := built(t)
		grows(t, "a size", m, l, Frame{1, bytesOf(size)}, place{2, 0})
		finds(t, "a size", m, []Frame{{1, bytesOf(size)}}, place{2, max((size+54)/55, 1)}, 2)
	}
}

// TestAppendWrong: P5.2, a nil log, and bytes that no frame has: neither the tail nor the number moves, even where the sectors wouldn't fit.
func TestAppendWrong(t *testing.T) {
	var none *Log
	for _, data := range []string{"", "a", bytesOf(441)} {
		if n, e := none.Append(data); n != 0 || e != api.ErrNil {
			t.Error(n, int(e))
		}
	}
	if n, e := new(Log).Append("a"); n != 0 || e == api.OK {
		t.Error(n, int(e))
	}
	for lead := range 17 {
		m, l := built(t, times(lead, 1)...)
		for _, size := range []int{441, 442, 495, 496, 1000, 100000} {
			if n, e := l.Append(bytesOf(size)); n != 0 || e != api.ErrFrame {
				t.Error(size, n, int(e))
			}
		}
		if m.Writes() != lead || l.Next() != lead+1 || l.Sectors() != lead {
			t.Error(lead, m.Writes(), l.Next(), l.Sectors())
		}
		want := place{2, lead}
		if lead == 16 {
			want = place{3, 0}
		}
		grows(t, "behind what was refused", m, l, frame(lead+1, 1), want)
	}
	// What can't be a frame is told even where the power is off.
	m, l := built(t)
	m.Arm(0)
	if n, e := l.Append(bytesOf(440)); n != 0 || e != api.ErrCut {
		t.Error(n, int(e))
	}
	if n, e := l.Append(bytesOf(441)); n != 0 || e != api.ErrFrame {
		t.Error(n, int(e))
	}
}

// TestAppendOver: P5.2, whatever stands behind the tail is written over, and nothing else.
func TestAppendOver(t *testing.T) {
	m := media.New()
	for _, file := range []int{0, 1, 2, 3, 4} {
		put(t, m, file, 0, slices.Repeat([]string{junk}, 20)...)
	}
	lay(t, m, 2, 0, framesOf(1, 3, 4)...)
	l, _ := open(t, m)
	grows(t, "over junk", m, l, frame(3, 6), place{2, 7})
	grows(t, "a sector too long", m, l, frame(4, 4), place{3, 0})
	grows(t, "behind it", m, l, frame(5, 8), place{3, 4})
	grows(t, "just as long", m, l, frame(6, 4), place{3, 12})
	grows(t, "a full segment", m, l, frame(7, 1), place{4, 0})
	finds(t, "amid junk", m, framesOf(1, 3, 4, 6, 4, 8, 4, 1), place{4, 1}, 8)
}

// segmentsOf is which segments a medium has.
func segmentsOf(m *media.Media) []int {
	return slices.DeleteFunc(m.Files(), func(file int) bool { return file < 2 })
}

// fourSegments is frames 1 to 3 in segment 2, 4 and 5 in segment 3, 6 to 9 in segment 4, and 10 and 11 in segment 5.
var fourSegments = []int{5, 5, 5, 8, 8, 4, 4, 4, 3, 2, 7}

// trims are numbers for Trim, with the first segment of fourSegments that stays.
var trims = []struct{ number, first int }{
	{math.MinInt, 2}, {-1000, 2}, {-1, 2}, {0, 2}, {1, 2}, {2, 2},
	{3, 3}, {4, 3}, {5, 4}, {6, 4}, {7, 4}, {8, 4},
	{9, 5}, {10, 5}, {11, 5}, {12, 5}, {1000, 5}, {math.MaxInt, 5},
}

// TestTrim: P5.3, for each number, by the log that appended the frames and by one that found them.
func TestTrim(t *testing.T) {
	for _, c := range trims {
		for _, who := range []string{"appended", "found"} {
			m, l := built(t, fourSegments...)
			put(t, m, 0, 0, junk)
			put(t, m, 1, 0, junk)
			if who == "found" {
				l, _ = open(t, m)
			}
			all, n := contents(t, m), m.Writes()
			errno(t, "Trim", l.Trim(c.number), api.OK)
			maps.DeleteFunc(all, func(p place, s string) bool { return p.file >= 2 && p.file < c.first })
			if got := contents(t, m); !maps.Equal(got, all) {
				t.Errorf("Trim(%d), %s: the files are %v", c.number, who, m.Files())
			}
			if got := m.Writes() - n; got != c.first-2 {
				t.Errorf("Trim(%d), %s: %d raw writes", c.number, who, got)
			}
			want := framesOf(1, fourSegments...)[[]int{0, 3, 5, 9}[c.first-2]:]
			finds(t, "behind Trim", m, want, place{5, 9}, 12)
			if l.Next() != 12 {
				t.Error(l.Next())
			}
			grows(t, "behind Trim", m, l, frame(12, 7), place{5, 9})
			grows(t, "behind Trim", m, l, frame(13, 1), place{6, 0})
		}
	}
}

// TestTrimFoundAndAppended: P5.3, the last frame of a segment may have been found or appended; that of a segment counts, not the first.
func TestTrimFoundAndAppended(t *testing.T) {
	m, _ := built(t, 8)
	l, _ := open(t, m)
	appends(t, l, framesOf(2, 4, 4, 1)...)
	for number := range 3 {
		errno(t, "Trim", l.Trim(number), api.OK)
		if !slices.Equal(m.Files(), []int{2, 3}) {
			t.Errorf("Trim(%d): %v", number, m.Files())
		}
	}
	errno(t, "Trim", l.Trim(3), api.OK)
	finds(t, "behind Trim", m, framesOf(4, 1), place{3, 1}, 5)
}

// TestTrimTail: P5.3, the tail's segment stays, full or not, and so does a medium without frames.
func TestTrimTail(t *testing.T) {
	for _, sectors := range [][]int{nil, {1}, {8}, {8, 8}, times(16, 1)} {
		m, l := built(t, sectors...)
		before, n := contents(t, m), m.Writes()
		for _, number := range []int{0, 1, 16, 17, math.MaxInt} {
			errno(t, "Trim", l.Trim(number), api.OK)
		}
		if !maps.Equal(contents(t, m), before) || m.Writes() != n {
			t.Errorf("Trim removed the tail's segment of %v", sectors)
		}
	}
	m := media.New()
	put(t, m, 7, 0, junk)
	l, _ := open(t, m)
	errno(t, "Trim", l.Trim(99), api.OK)
	if !slices.Equal(m.Files(), []int{7}) || m.Writes() != 1 {
		t.Error(m.Files(), m.Writes())
	}
}

// TestTrimStrange: P5.3, a segment below the tail's that has no frame of the log goes, whatever the number; those from the tail's on stay, and so do files 0 and 1.
func TestTrimStrange(t *testing.T) {
	for _, number := range []int{math.MinInt, -1, 0, 1, 8} {
		m := media.New()
		lay(t, m, 10, 0, framesOf(9, 8, 8)...)
		lay(t, m, 11, 0, framesOf(11, 8, 8)...)
		lay(t, m, 12, 0, frame(13, 1))
		l, _ := open(t, m)
		for _, file := range []int{0, 1, 2, 3, 9, 13, 1048575} {
			put(t, m, file, 3, junk)
		}
		errno(t, "Trim", l.Trim(number), api.OK)
		if want := []int{0, 1, 10, 11, 12, 13, 1048575}; !slices.Equal(m.Files(), want) {
			t.Errorf("Trim(%d): the files are %v", number, m.Files())
		}
		lay(t, m, 5, 0, frame(9, 1))
		put(t, m, 6, 40, junk)
		errno(t, "Trim", l.Trim(10), api.OK)
		if want := []int{0, 1, 11, 12, 13, 1048575}; !slices.Equal(m.Files(), want) {
			t.Errorf("Trim(10) behind Trim(%d): the files are %v", number, m.Files())
		}
		// The frames of a segment that was removed are the log's no longer.
		put(t, m, 10, 0, junk)
		errno(t, "Trim", l.Trim(number), api.OK)
		if want := []int{0, 1, 11, 12, 13, 1048575}; !slices.Equal(m.Files(), want) {
			t.Errorf("Trim(%d) behind Trim(10): the files are %v", number, m.Files())
		}
	}
}

// TestTrimMissing: P5.3, a segment that isn't there any more isn't considered: no raw write is made for it.
func TestTrimMissing(t *testing.T) {
	m, l := built(t, fourSegments...)
	errno(t, "Remove", m.Remove(3), api.OK)
	n := m.Writes()
	errno(t, "Trim", l.Trim(3), api.OK)
	if !slices.Equal(m.Files(), []int{4, 5}) || m.Writes() != n+1 {
		t.Error(m.Files(), m.Writes()-n)
	}
}

// TestTrimWrong: P5.3, a nil log, one that Open didn't make, and the error of Remove; where nothing is to be removed, none comes.
func TestTrimWrong(t *testing.T) {
	var none *Log
	for _, number := range []int{math.MinInt, 0, 1, math.MaxInt} {
		errno(t, "Trim of nil", none.Trim(number), api.ErrNil)
		errno(t, "Trim of a log that Open didn't make", new(Log).Trim(number), api.OK)
	}
	m, l := built(t, fourSegments...)
	m.Arm(0)
	errno(t, "Trim(2) with nothing to remove", l.Trim(2), api.OK)
	errno(t, "Trim(3) with no raw write left", l.Trim(3), api.ErrCut)
	errno(t, "Trim(3) with the power off", l.Trim(3), api.ErrCut)
	errno(t, "Trim(2) with the power off", l.Trim(2), api.OK)
	if !slices.Equal(m.Files(), []int{2, 3, 4, 5}) {
		t.Error(m.Files())
	}
}

// TestQueries: P5.4, while frames are appended and segments removed.
func TestQueries(t *testing.T) {
	var none *Log
	if none.Next() != 0 || none.Sectors() != 0 {
		t.Error(none.Next(), none.Sectors())
	}
	if l := new(Log); l.Sectors() != 0 {
		t.Error(l.Sectors())
	}
	m, l := built(t)
	// Segment 2 keeps a sector free: 8, 7, then 3.
	for i, c := range []struct{ sectors, total int }{{8, 8}, {7, 15}, {3, 18}, {8, 26}, {6, 32}, {1, 33}} {
		if l.Next() != i+1 {
			t.Errorf("Next = %d", l.Next())
		}
		appends(t, l, frame(i+1, c.sectors))
		if k, _ := open(t, m); l.Sectors() != c.total || k.Sectors() != c.total || k.Next() != i+2 {
			t.Errorf("Sectors behind frame %d = %d, %d, want %d", i+1, l.Sectors(), k.Sectors(), c.total)
		}
	}
	errno(t, "Trim", l.Trim(2), api.OK)
	if l.Next() != 7 || l.Sectors() != 18 {
		t.Error(l.Next(), l.Sectors())
	}
	errno(t, "Trim", l.Trim(7), api.OK)
	if l.Next() != 7 || l.Sectors() != 7 {
		t.Error(l.Next(), l.Sectors())
	}
	if k, _ := open(t, m); k.Next() != 7 || k.Sectors() != 7 {
		t.Error(k.Next(), k.Sectors())
	}
}

// TestSectors: P5.4, of the tail's segment only the sectors ahead of the tail count; of the ones below it all that media.Size tells, of others none.
func TestSectors(t *testing.T) {
	m := media.New()
	for _, file := range []int{0, 1} {
		put(t, m, file, 5, junk)
	}
	sectors := func(why string, want int) {
		t.Helper()
		if l, _ := open(t, m); l.Sectors() != want {
			t.Errorf("%s: Sectors = %d, want %d", why, l.Sectors(), want)
		}
	}
	sectors("files 0 and 1", 0)
	put(t, m, 3, 5, junk)
	sectors("a segment without frames", 0)
	lay(t, m, 3, 0, framesOf(1, 1, 2)...)
	sectors("junk behind the tail", 3)
	put(t, m, 3, 15, junk)
	put(t, m, 3, 30, junk)
	sectors("junk at the end and beyond", 3)
	put(t, m, 5, 0, junk)
	sectors("a segment above", 3)
	put(t, m, 4, 9, junk)
	sectors("junk in the next segment", 3)
	lay(t, m, 4, 0, framesOf(3, 2, 1)...)
	sectors("a segment below, beyond its end", 31+3)
	l, _ := open(t, m)
	put(t, m, 2, 3, junk)
	if l.Sectors() != 4+31+3 {
		t.Error(l.Sectors())
	}
	errno(t, "Remove", m.Remove(3), api.OK)
	if l.Sectors() != 4+3 {
		t.Error(l.Sectors())
	}
	errno(t, "Remove", m.Remove(4), api.OK)
	if l.Sectors() != 4 {
		t.Error(l.Sectors())
	}
	put(t, m, 4, 1, junk)
	if l.Sectors() != 4+2 {
		t.Error(l.Sectors())
	}
}

// TestQueriesOff: P5.4, Next and Sectors need no power, and use up no raw write.
func TestQueriesOff(t *testing.T) {
	m, l := built(t, fourSegments...)
	m.Arm(0)
	for range 2 {
		if l.Next() != 12 || l.Sectors() != 15+16+15+9 {
			t.Error(l.Next(), l.Sectors())
		}
		errno(t, "Write", m.Write(9, 0, junk), api.ErrCut)
	}
}
