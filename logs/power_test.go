package logs

import (
	"math/rand"
	"slices"
	"strings"
	"testing"

	"stevedore/api"
	"stevedore/frames"
	"stevedore/media"
)

// tries is an Append of so many sectors of one byte, during which the power fails when some of them are written; then it comes on again. It tells the frame if it was answered.
func tries(t *testing.T, m *media.Media, l *Log, sectors, left int, b string) []Frame {
	t.Helper()
	f, done := Frame{l.Next(), strings.Repeat(b, 55*sectors)}, m.Writes()
	m.Arm(left)
	n, e := l.Append(f.Data)
	m.On()
	if got := m.Writes() - done; got != min(left, sectors) {
		t.Errorf("Append made %d raw writes, want %d", got, min(left, sectors))
	}
	if left < sectors {
		if n != 0 || e != api.ErrCut {
			t.Errorf("Append with %d of %d raw writes left = %d, %d", left, sectors, n, int(e))
		}
		return nil
	}
	if n != f.Number || e != api.OK {
		t.Errorf("Append with %d of %d raw writes left = %d, %d", left, sectors, n, int(e))
	}
	return []Frame{f}
}

// end is the tail behind one more frame.
func end(tail place, sectors int) place {
	if tail.at+sectors > 16 {
		tail = place{tail.file + 1, 0}
	}
	return place{tail.file, tail.at + sectors}
}

// TestAppendCut: P5.5 and P5.2, the power fails at each raw write of an Append of each length, at each tail of a segment; then frames of each length follow.
func TestAppendCut(t *testing.T) {
	for lead := range 17 {
		for sectors := 1; sectors <= 8; sectors++ {
			for left := range sectors + 2 {
				m, l := built(t, times(lead, 1)...)
				want, tail := framesOf(1, times(lead, 1)...), place{2, lead}
				if got := tries(t, m, l, sectors, left, "a"); got != nil {
					want, tail = append(want, got...), end(tail, sectors)
				}
				finds(t, "behind the cut", m, want, tail, len(want)+1)
				for behind := 1; behind <= 8; behind++ {
					other := copyOf(t, m)
					l, _ := open(t, other)
					more := framesOf(len(want)+1, behind, 1, behind)
					appends(t, l, more...)
					last := end(end(end(tail, behind), 1), behind)
					finds(t, "appended behind the cut", other, slices.Concat(want, more), last, len(want)+4)
				}
			}
		}
	}
}

// TestAppendCutTwice: P5.5, the power fails at each raw write of two Appends of one number, one after the other; what both have left behind the tail is no frame, nor part of one that follows.
func TestAppendCutTwice(t *testing.T) {
	for _, lead := range []int{0, 6, 8, 11, 14, 15, 16} {
		for sectors := range 8 * 8 {
			one, two := sectors/8+1, sectors%8+1
			for left := range one * two {
				m, l := built(t, times(lead, 1)...)
				tries(t, m, l, one, left/two, "a")
				l, _ = open(t, m)
				tries(t, m, l, two, left%two, "b")
				want := framesOf(1, times(lead, 1)...)
				l, fs := open(t, m)
				if !slices.Equal(fs, want) || l.Next() != lead+1 || l.Sectors() != lead {
					t.Fatalf("%d frames, %d of %d and %d of %d sectors: found %s", lead, left/two, one, left%two, two, told(fs))
				}
				more := framesOf(lead+1, 1, 1, 2)
				appends(t, l, more...)
				if _, fs := open(t, m); !slices.Equal(fs, append(want, more...)) {
					t.Fatalf("%d frames, %d of %d and %d of %d sectors, then three: found %s", lead, left/two, one, left%two, two, told(fs))
				}
			}
		}
	}
}

// TestAppendCutThenCalled: R1 and P5.5, the calls of a log whose Append has failed still end; the power may fail at the first one again.
func TestAppendCutThenCalled(t *testing.T) {
	for lead := range 17 {
		m, l := built(t, times(lead, 1)...)
		m.Arm(2)
		for range 3 {
			if n, e := l.Append(bytesOf(440)); n != 0 || e != api.ErrCut {
				t.Error(n, int(e))
			}
		}
		l.Next()
		l.Sectors()
		m.On()
		finds(t, "behind three that failed", m, framesOf(1, times(lead, 1)...), place{2, lead}, lead+1)
		l.Append("")
		l.Sectors()
		l.Trim(99)
	}
}

// TestTrimCut: P5.5 and P5.3, the power fails at each raw write of a Trim: the segments ahead of it are gone, and the log goes on, the one that was cut as well as one that is opened.
func TestTrimCut(t *testing.T) {
	firsts := []int{1, 4, 6, 10} // by segment, its first frame
	all := framesOf(1, fourSegments...)
	for _, c := range trims {
		for left := range c.first {
			m, l := built(t, fourSegments...)
			m.Arm(left)
			e := l.Trim(c.number)
			m.On()
			gone, want := min(left, c.first-2), api.OK
			if gone < c.first-2 {
				want = api.ErrCut
			}
			errno(t, "Trim", e, want)
			stay := all[firsts[gone]-1:]
			finds(t, "behind the cut", m, stay, place{5, 9}, 12)
			other := copyOf(t, m)
			k, _ := open(t, other)
			more := framesOf(12, 7, 1)
			appends(t, k, more...)
			finds(t, "appended behind the cut", other, slices.Concat(stay, more), place{6, 1}, 14)
			errno(t, "Trim again", l.Trim(c.number), api.OK)
			stay = all[firsts[c.first-2]-1:]
			finds(t, "trimmed again", m, stay, place{5, 9}, 12)
			appends(t, l, more...)
			finds(t, "appended by the log that was cut", m, slices.Concat(stay, more), place{6, 1}, 14)
		}
	}
}

// books is what a log must hold: its frames with the segment of each, and the tail.
type books struct {
	frames   []Frame
	segments []int
	tail     place
	next     int
}

func (b *books) add(f Frame, sectors int) {
	b.tail = end(b.tail, sectors)
	b.frames = append(b.frames, f)
	b.segments = append(b.segments, b.tail.file)
	b.next++
}

// trim takes away so many segments, at most, ahead of the tail's that have no frame above a number, and tells how many there were to take.
func (b *books) trim(number, left int) int {
	count := 0
	for len(b.frames) > 0 && b.segments[0] != b.tail.file {
		n := 0
		for n < len(b.segments) && b.segments[n] == b.segments[0] {
			n++
		}
		if b.frames[n-1].Number > number {
			break
		}
		if count++; count > left {
			break
		}
		b.frames, b.segments = b.frames[n:], b.segments[n:]
	}
	return count
}

// check holds what Open finds against the books.
func (b *books) check(t *testing.T, m *media.Media) *Log {
	t.Helper()
	l, fs := open(t, m)
	if !slices.Equal(fs, b.frames) || l.Next() != b.next {
		t.Fatalf("Open found %s, next %d, want %s, next %d", told(fs), l.Next(), told(b.frames), b.next)
	}
	return l
}

// step appends or trims, and may let the power fail meanwhile; then it comes on again. It tells whether a call failed.
func (b *books) step(t *testing.T, r *rand.Rand, m *media.Media, l *Log) bool {
	t.Helper()
	left := 100
	if r.Intn(3) == 0 {
		left = r.Intn(9)
	}
	if r.Intn(5) > 0 {
		sectors := 1 + r.Intn(8)
		got := tries(t, m, l, sectors, left, string(rune('a'+r.Intn(26))))
		for _, f := range got {
			b.add(f, sectors)
		}
		return got == nil
	}
	left %= 3
	m.Arm(left)
	number := b.next - r.Intn(12)
	e := l.Trim(number)
	m.On()
	want := api.OK
	if b.trim(number, left) > left {
		want = api.ErrCut
	}
	errno(t, "Trim", e, want)
	return e != api.OK
}

// TestLongRun: P5.5, thousands of Appends and Trims, during which the power fails again and again: no frame that was answered is lost.
func TestLongRun(t *testing.T) {
	r := rand.New(rand.NewSource(5))
	for range 20 {
		m, b := media.New(), &books{tail: place{2, 0}, next: 1}
		l, _ := open(t, m)
		for range 500 {
			if b.step(t, r, m, l) || r.Intn(4) == 0 {
				l = b.check(t, m)
			}
		}
		if b.next < 250 || b.frames[0].Number < 150 {
			t.Errorf("frames were appended up to %d, and removed up to %d", b.next-1, b.frames[0].Number-1)
		}
	}
}

// standing is the frame that stands at a sector of a segment, and its sectors, by the words of the document.
func standing(all map[place]string, p place) (Frame, int) {
	first, e := frames.Tell(all[p])
	if e != api.OK || p.at+first.Parts > 16 {
		return Frame{}, 0
	}
	f := Frame{Number: first.Number}
	for i := range first.Parts {
		part, e := frames.Tell(all[place{p.file, p.at + i}])
		if e != api.OK || part.Part != i || part.Number != first.Number || part.Parts != first.Parts {
			return Frame{}, 0
		}
		f.Data += part.Data
	}
	return f, first.Parts
}

// search is the frames of a medium, and the tail, by the words of the document.
func search(all map[place]string, first int) ([]Frame, place) {
	var found []Frame
	tail, here := place{first, 0}, 0
	for {
		f, n := standing(all, tail)
		if n > 0 && (len(found) == 0 || f.Number == found[len(found)-1].Number+1) {
			found, here, tail.at = append(found, f), here+1, tail.at+n
			continue
		}
		f, n = standing(all, place{tail.file + 1, 0})
		if here == 0 || n == 0 || f.Number != found[len(found)-1].Number+1 {
			return found, tail
		}
		found, here, tail = append(found, f), 1, place{tail.file + 1, n}
	}
}

// scatter writes to a medium what looks like a log, with faults of all kinds.
func scatter(t *testing.T, r *rand.Rand, m *media.Media) {
	t.Helper()
	number, p := 1+r.Intn(3), place{2 + r.Intn(8)/7, 0}
	for p.file < 6 {
		if r.Intn(12) == 0 {
			number += r.Intn(4) - 2
		}
		sectors := sectorsOf(t, frame(max(number, 1), 1+r.Intn(1+r.Intn(8))))
		switch r.Intn(25) {
		case 0:
			sectors = sectors[r.Intn(len(sectors)):]
		case 1:
			sectors = sectors[:r.Intn(len(sectors))]
		case 2:
			sectors[r.Intn(len(sectors))] = junk
		case 3:
			p.at++
		}
		if p.at+len(sectors) > 16 && r.Intn(6) > 0 || r.Intn(25) == 0 {
			p = place{p.file + 1, 0}
		}
		put(t, m, p.file, p.at, sectors...)
		p.at += len(sectors)
		number++
		if p.at >= 16 && r.Intn(4) == 0 {
			p = place{p.file + 1 + r.Intn(8)/7, 0}
		}
	}
}

// TestAnyMedium: P5.1 and P5.4, media with faults of all kinds: Open finds what the words of the document say.
func TestAnyMedium(t *testing.T) {
	r := rand.New(rand.NewSource(55))
	few, many := 0, 0
	for range 3000 {
		m := media.New()
		scatter(t, r, m)
		want, tail := search(contents(t, m), segmentsOf(m)[0])
		next := 1
		if len(want) > 0 {
			next = want[len(want)-1].Number + 1
		}
		finds(t, "any medium", m, want, tail, next)
		total := tail.at
		for file := 2; file < tail.file; file++ {
			total += m.Size(file)
		}
		if l, _ := open(t, m); l.Sectors() != total {
			t.Errorf("Sectors = %d, want %d", l.Sectors(), total)
		}
		if tail.file > segmentsOf(m)[0] {
			many++
		} else {
			few++
		}
	}
	if few < 300 || many < 300 {
		t.Errorf("%d media had frames in one segment at most, %d in more", few, many)
	}
}
