package slots

import (
	"encoding/binary"
	"math/rand"
	"strings"
	"testing"

	"stevedore/api"
	"stevedore/media"
)

// shot is a snapshot.
type shot struct {
	number int
	data   string
}

// answers checks what Load answers: a snapshot, or that there is none if its number is 0.
func answers(t *testing.T, why string, m *media.Media, want shot) {
	t.Helper()
	if want.number == 0 {
		fails(t, why, m, api.ErrAbsent)
		return
	}
	loads(t, why, m, want.number, want.data)
}

// tries is a Save during which the power fails when some sectors are written; then it comes on again. It tells whether the Save went well.
func tries(t *testing.T, m *media.Media, s shot, left int) bool {
	t.Helper()
	sectors := laid(s.number, s.data)
	writes := m.Writes()
	m.Arm(left)
	e := Save(m, s.number, s.data)
	if left < len(sectors) {
		errno(t, "Save that is cut", e, api.ErrCut)
		fails(t, "off", m, api.ErrCut)
	} else {
		errno(t, "Save that isn't cut", e, api.OK)
	}
	m.On()
	if got := m.Writes() - writes; got != min(left, len(sectors)) {
		t.Errorf("Save made %d raw writes, want %d", got, min(left, len(sectors)))
	}
	for i := range min(left, len(sectors)) {
		if got, _ := m.Read(s.number%2, i); got != sectors[i] {
			t.Errorf("Save wrote another sector %d than it must", i)
		}
	}
	return e == api.OK
}

// TestExample: P6.4, the document's example.
func TestExample(t *testing.T) {
	m := media.New()
	fails(t, "an empty medium", m, api.ErrAbsent)
	save(t, m, 1, "a")
	save(t, m, 2, "b")
	m.Arm(1)
	errno(t, "Save", Save(m, 3, strings.Repeat("c", 100)), api.ErrCut)
	fails(t, "off", m, api.ErrCut)
	m.On()
	loads(t, "on again", m, 2, "b")
}

// TestSaveCut: P6.4, the power fails at each raw write of a Save of each length, behind none to four Saves of each length: Load answers the last snapshot that was saved. A further Save of the number goes well, whatever its length.
func TestSaveCut(t *testing.T) {
	for before := range 5 {
		for _, old := range few {
			for _, length := range few {
				s := shot{before + 1, textOf(length, 100)}
				parts := len(laid(s.number, s.data))
				for left := range parts + 2 {
					m, last := media.New(), shot{}
					for n := range before {
						last = shot{n + 1, textOf(old, byte(n))}
						save(t, m, last.number, last.data)
					}
					if tries(t, m, s, left) != (left >= parts) {
						t.Fatalf("%d of %d raw writes left", left, parts)
					}
					if left >= parts {
						last = s
					}
					answers(t, "behind the cut", m, last)
					again := shot{s.number, textOf(few[(left+length)%len(few)], 101)}
					save(t, m, again.number, again.data)
					answers(t, "saved again behind the cut", m, again)
					save(t, m, s.number+1, "next")
					answers(t, "the next one", m, shot{s.number + 1, "next"})
				}
			}
		}
	}
}

// TestSaveCutTwice: P6.4, the power fails at each raw write of two Saves of one number, one after the other: the sectors of both together are no snapshot.
func TestSaveCutTwice(t *testing.T) {
	for _, one := range few {
		for _, two := range few {
			for left := range Sectors(one) {
				for then := range Sectors(two) {
					m := media.New()
					save(t, m, 3, textOf(one, 3))
					save(t, m, 4, textOf(two, 4))
					tries(t, m, shot{5, textOf(one, 5)}, left)
					tries(t, m, shot{5, textOf(two, 6)}, then)
					loads(t, "cut twice", m, 4, textOf(two, 4))
					save(t, m, 5, textOf(one, 7))
					loads(t, "saved then", m, 5, textOf(one, 7))
				}
			}
		}
	}
}

// TestSaveCutBoth: P6.3, the power fails while each slot is written, of numbers that aren't consecutive: no slot is complete if a sector was written to each, till one is saved.
func TestSaveCutBoth(t *testing.T) {
	for left := range 4 {
		for then := range 4 {
			m := media.New()
			save(t, m, 1, textOf(200, 1))
			save(t, m, 2, textOf(200, 2))
			tries(t, m, shot{3, textOf(200, 3)}, left)
			tries(t, m, shot{4, textOf(200, 4)}, then)
			want := shot{}
			switch {
			case then == 0:
				want = shot{2, textOf(200, 2)}
			case left == 0:
				want = shot{1, textOf(200, 1)}
			}
			answers(t, "both cut", m, want)
			save(t, m, 3, textOf(10, 5))
			if then == 0 {
				save(t, m, 2, textOf(10, 6))
			}
			loads(t, "saved then", m, 3, textOf(10, 5))
		}
	}
}

// TestSaveCutGreatest: P6.4, the power fails at the first, a middle and the last raw write of a Save of the greatest length, over another of it.
func TestSaveCutGreatest(t *testing.T) {
	m := media.New()
	save(t, m, 2147483645, textOf(1000000, 1))
	save(t, m, 2147483646, textOf(1000000, 2))
	s := shot{2147483647, textOf(1000000, 3)}
	for _, left := range []int{0, 1, 9434, 18866, 18867} {
		tries(t, m, s, left)
		loads(t, "cut", m, 2147483646, textOf(1000000, 2))
	}
	tries(t, m, s, 18868)
	answers(t, "not cut", m, s)
}

// TestLongRun: P6.4, thousands of Saves with consecutive numbers, during which the power fails again and again; each is tried till it goes well.
func TestLongRun(t *testing.T) {
	r := rand.New(rand.NewSource(6))
	for _, first := range []int{1, 2, 2147480000} {
		m, last := media.New(), shot{}
		cuts := 0
		for n := range 3000 {
			s := shot{first + n, textOf(r.Intn(1+r.Intn(400)), byte(r.Intn(256)))}
			for !tries(t, m, s, r.Intn(2+Sectors(len(s.data)))) {
				answers(t, "cut", m, last)
				cuts++
				if r.Intn(2) == 0 {
					s.data = textOf(r.Intn(1+r.Intn(400)), byte(r.Intn(256)))
				}
			}
			last = s
			answers(t, "saved", m, last)
			if n > 0 && m.Size(0)+m.Size(1) > 2*8 {
				t.Fatalf("the slots have %d sectors", m.Size(0)+m.Size(1))
			}
		}
		if cuts < 1000 {
			t.Errorf("%d cuts", cuts)
		}
	}
}

// complete is the snapshot of a slot by the words of the document, or none.
func complete(all map[place]string, slot int) shot {
	first := all[place{slot, 0}]
	if first == "" {
		return shot{}
	}
	number, parts := binary.BigEndian.Uint32([]byte(first)), int(binary.BigEndian.Uint16([]byte(first[6:])))
	if number < 1 || number > 2147483647 || int(number)%2 != slot || parts == 0 {
		return shot{}
	}
	data := ""
	for i := range parts {
		s := []byte(all[place{slot, i}])
		if len(s) != 64 || seal(string(s[:62])) != string(s) {
			return shot{}
		}
		size := int(s[8])
		same := binary.BigEndian.Uint32(s) == number && int(binary.BigEndian.Uint16(s[4:])) == i && int(binary.BigEndian.Uint16(s[6:])) == parts
		fits := size == 53 || size < 53 && i == parts-1 && (size > 0 || parts == 1)
		if !same || !fits || strings.Trim(string(s[9+size:62]), "\x00") != "" {
			return shot{}
		}
		data += string(s[9 : 9+size])
	}
	if len(data) > 1000000 {
		return shot{}
	}
	return shot{int(number), data}
}

// spoil changes one sector of a slot: it goes away, becomes another one, or has a byte changed and its check set right.
func spoil(r *rand.Rand, all map[place]string, slot int) {
	p := place{slot, r.Intn(4)}
	s := all[p]
	switch kind := r.Intn(8); {
	case kind == 0 || s == "":
		delete(all, p)
	case kind == 1:
		all[p] = all[place{r.Intn(2), r.Intn(4)}]
	case kind == 2:
		all[p] = s[:63] + string([]byte{byte(r.Intn(256))})
	default:
		i := r.Intn(62)
		if r.Intn(2) == 0 {
			i = r.Intn(10)
		}
		change := byte(1 + r.Intn(3))
		all[p] = seal(s[:i] + string([]byte{s[i] + change}) + s[i+1:62])
	}
	if all[p] == "" {
		delete(all, p)
	}
}

// TestAnyMedium: P6.3, media with sectors of several snapshots and faults of all kinds: Load answers what the words of the document say.
func TestAnyMedium(t *testing.T) {
	r := rand.New(rand.NewSource(66))
	var counts [3]int
	for range 20000 {
		all := map[place]string{}
		for slot := range 2 {
			for range 1 + r.Intn(3) {
				number := 2*(1+r.Intn(5)) + slot
				sectors := laid(number, textOf(r.Intn(1+r.Intn(200)), byte(r.Intn(3))))
				if r.Intn(4) == 0 {
					sectors = sectors[:r.Intn(len(sectors))]
				}
				for i, s := range sectors {
					all[place{slot, i}] = s
				}
			}
			for range r.Intn(3) {
				spoil(r, all, slot)
			}
		}
		want, count := shot{}, 0
		for slot := range 2 {
			s := complete(all, slot)
			if s.number > 0 {
				count++
			}
			if s.number > want.number {
				want = s
			}
		}
		counts[count]++
		answers(t, "any medium", mediumOf(t, all), want)
	}
	for complete, n := range counts {
		if n < 2000 {
			t.Errorf("%d media had %d complete slots", n, complete)
		}
	}
}
