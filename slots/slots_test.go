package slots

import (
	"encoding/binary"
	"encoding/hex"
	"maps"
	"math"
	"strings"
	"testing"

	"stevedore/api"
	"stevedore/media"
)

// place is a sector of a file.
type place struct{ file, at int }

// junk is a sector that is none of a snapshot.
var junk = strings.Repeat("j", api.Sector)

// lengths is how many bytes a snapshot may have: those next to a whole part, and the greatest of them all.
var lengths = []int{0, 1, 52, 53, 54, 106, 107, 159, 160, 200, 1000000}

// few is the lengths without the greatest one, for tests that go through each sector.
var few = lengths[:len(lengths)-1]

// textOf is so many bytes, of which no two parts are alike; salt tells one text from another.
func textOf(n int, salt byte) string {
	b := make([]byte, n)
	for i := range b {
		b[i] = byte(i%251) + byte(i/53) + salt
	}
	return string(b)
}

// seal is the first 62 bytes of a sector, and behind them their sum.
func seal(body string) string {
	sum := 1
	for i := range len(body) {
		sum = (sum*31 + int(body[i])) % 65521
	}
	return string(binary.BigEndian.AppendUint16([]byte(body), uint16(sum)))
}

// sector is what a sector says, whether a snapshot has it or not, with a sum that is right.
func sector(number uint32, index, parts uint16, size byte, data string) string {
	b := binary.BigEndian.AppendUint32(nil, number)
	b = binary.BigEndian.AppendUint16(b, index)
	b = binary.BigEndian.AppendUint16(b, parts)
	b = append(append(b, size), data...)
	return seal(string(append(b, make([]byte, 62-len(b))...)))
}

// laid is the sectors of a snapshot by the words of the document.
func laid(number int, data string) []string {
	parts := []string{data}
	for last := 0; len(parts[last]) > 53; last++ {
		parts = append(parts[:last], parts[last][:53], parts[last][53:])
	}
	var out []string
	for i, p := range parts {
		out = append(out, sector(uint32(number), uint16(i), uint16(len(parts)), byte(len(p)), p))
	}
	return out
}

// put writes sectors from a place on, which must go well.
func put(t *testing.T, m *media.Media, file, at int, sectors ...string) {
	t.Helper()
	for i, s := range sectors {
		if e := m.Write(file, at+i, s); e != api.OK {
			t.Fatalf("Write(%d, %d): error %d", file, at+i, int(e))
		}
	}
}

// holding is a medium, one of whose slots has these sectors.
func holding(t *testing.T, slot int, sectors ...string) *media.Media {
	t.Helper()
	m := media.New()
	put(t, m, slot, 0, sectors...)
	return m
}

// contents is all that was written to a medium, and not removed.
func contents(t *testing.T, m *media.Media) map[place]string {
	t.Helper()
	all := map[place]string{}
	for _, file := range m.Files() {
		for at := range m.Size(file) {
			s, e := m.Read(file, at)
			if e == api.OK {
				all[place{file, at}] = s
			} else if e != api.ErrAbsent {
				t.Fatalf("Read(%d, %d): error %d", file, at, int(e))
			}
		}
	}
	return all
}

// mediumOf is one with these contents.
func mediumOf(t *testing.T, all map[place]string) *media.Media {
	t.Helper()
	m := media.New()
	for p, s := range all {
		put(t, m, p.file, p.at, s)
	}
	return m
}

// save saves a snapshot, which must go well.
func save(t *testing.T, m *media.Media, number int, data string) {
	t.Helper()
	if e := Save(m, number, data); e != api.OK {
		t.Fatalf("Save(%d, %d bytes): error %d", number, len(data), int(e))
	}
}

// loads checks which snapshot Load answers, and that it writes nothing.
func loads(t *testing.T, why string, m *media.Media, number int, data string) {
	t.Helper()
	writes := m.Writes()
	n, s, e := Load(m)
	if n != number || s != data || e != api.OK {
		t.Errorf("%s: Load = %d, %d bytes, error %d, want %d, %d bytes", why, n, len(s), int(e), number, len(data))
	}
	if m.Writes() != writes {
		t.Errorf("%s: Load made %d raw writes", why, m.Writes()-writes)
	}
}

// fails checks what Load answers beside an error.
func fails(t *testing.T, why string, m *media.Media, want api.Errno) {
	t.Helper()
	if n, s, e := Load(m); n != 0 || s != "" || e != want {
		t.Errorf("%s: Load = %d, %d bytes, error %d, want error %d", why, n, len(s), int(e), int(want))
	}
}

// errno checks an error.
func errno(t *testing.T, what string, got, want api.Errno) {
	t.Helper()
	if got != want {
		t.Errorf("%s = %d, want %d", what, int(got), int(want))
	}
}

// TestSectors: P6.1, up to the greatest number of bytes, and behind it.
func TestSectors(t *testing.T) {
	for _, c := range []struct{ bytes, want int }{
		{0, 1}, {1, 1}, {52, 1}, {53, 1}, {54, 2}, {105, 2}, {106, 2}, {107, 3}, {159, 3}, {160, 4},
		{999951, 18867}, {999952, 18868}, {1000000, 18868}, {1000001, 18868}, {1000005, 18869},
		{-1, 1}, {-5, 1}, {-52, 1}, {-53, 1}, {-54, 1}, {-107, 1}, {-1000000, 1}, {math.MinInt + 1, 1}, {math.MinInt, 1},
		{math.MaxInt, 174025887487825959}, // 2^63 - 1 = 53 * 174025887487825958 + 33
	} {
		if got := Sectors(c.bytes); got != c.want {
			t.Errorf("Sectors(%d) = %d, want %d", c.bytes, got, c.want)
		}
	}
	for whole := range 2000 {
		for more := 1; more <= 53; more++ {
			if got := Sectors(53*whole + more); got != whole+1 {
				t.Fatalf("Sectors(%d) = %d, want %d", 53*whole+more, got, whole+1)
			}
		}
	}
}

// TestSectorBytes: P6.2, sectors worked out by hand.
func TestSectorBytes(t *testing.T) {
	rising := ""
	for b := byte(200); b < 253; b++ {
		rising += string([]byte{b})
	}
	for _, c := range []struct {
		number, at int
		data       string
		head, tail string // all between them is zero
	}{
		{2, 0, "", "000000020000000100", "3333"},
		{1, 0, "a", "00000001000000010161", "9f95"},
		{16909060, 0, rising + "\xff", "010203040000000235" + hex.EncodeToString([]byte(rising)), "7fc4"},
		{16909060, 1, rising + "\xff", "010203040001000201ff", "6c9c"},
		{2147483647, 18867, strings.Repeat("z", 1000000), "7fffffff49b349b431" + strings.Repeat("7a", 49), "9b27"},
	} {
		m := media.New()
		save(t, m, c.number, c.data)
		want := c.head + strings.Repeat("0", 128-len(c.head)-len(c.tail)) + c.tail
		s, e := m.Read(c.number%2, c.at)
		if got := hex.EncodeToString([]byte(s)); got != want || e != api.OK {
			t.Errorf("sector %d of %d = %s, %d, want %s", c.at, c.number, got, int(e), want)
		}
	}
}

// TestSave: P6.2 and P6.1, each length and the numbers at the edges: just the sectors of the parts are written, from sector 0 of the slot on, and Load gives the snapshot back.
func TestSave(t *testing.T) {
	for _, length := range lengths {
		for _, number := range []int{1, 2, 3, 4, 255, 256, 65535, 65536, 16777216, 2147483646, 2147483647} {
			m, data := media.New(), textOf(length, byte(number))
			save(t, m, number, data)
			want := map[place]string{}
			for i, s := range laid(number, data) {
				want[place{number % 2, i}] = s
			}
			if got := contents(t, m); !maps.Equal(got, want) {
				t.Errorf("Save(%d, %d bytes) wrote %d sectors, or others than the %d it must", number, length, len(got), len(want))
			}
			if n := Sectors(length); m.Writes() != n || m.Size(number%2) != n {
				t.Errorf("Save(%d, %d bytes) made %d raw writes, want %d", number, length, m.Writes(), n)
			}
			loads(t, "after Save", m, number, data)
		}
	}
}

// TestSaveAllBytes: P6.2 and P6.3, a snapshot may have any bytes, zero bytes at its end among them, and is no text of runes.
func TestSaveAllBytes(t *testing.T) {
	all := ""
	for b := range 256 {
		all += string([]byte{byte(b)})
	}
	for _, data := range []string{all, "\x00", "a\x00\x00", strings.Repeat("\x00", 53), strings.Repeat("\x00", 54), strings.Repeat("\xff", 1000), strings.Repeat("é", 53), "\x80\xff"} {
		for number := 1; number <= 2; number++ {
			m := media.New()
			save(t, m, number, data)
			loads(t, "any bytes", m, number, data)
		}
	}
}

// TestSaveOver: P6.2 and P6.3, a snapshot written over another of its slot, greater, smaller or as great: its sectors become the first ones, the others stay, and so does the other slot.
func TestSaveOver(t *testing.T) {
	for _, before := range few {
		for _, length := range few {
			for number := 3; number <= 4; number++ {
				m := media.New()
				save(t, m, number-2, textOf(before, 1))
				save(t, m, number-1, textOf(70, 2))
				put(t, m, 2, 0, junk)
				want := contents(t, m)
				data := textOf(length, 3)
				for i, s := range laid(number, data) {
					want[place{number % 2, i}] = s
				}
				save(t, m, number, data)
				if !maps.Equal(contents(t, m), want) {
					t.Errorf("%d bytes over %d: the medium has other sectors than it must", length, before)
				}
				loads(t, "one over another", m, number, data)
			}
		}
	}
}

// TestSaveAgain: P6.2 and P6.3, a number may be saved again, and a lower one over a higher one; what is there then counts.
func TestSaveAgain(t *testing.T) {
	m := media.New()
	save(t, m, 7, textOf(200, 0))
	save(t, m, 7, textOf(107, 1))
	loads(t, "again", m, 7, textOf(107, 1))
	save(t, m, 7, textOf(107, 1))
	loads(t, "the same again", m, 7, textOf(107, 1))
	save(t, m, 5, textOf(54, 2))
	loads(t, "a lower one over it", m, 5, textOf(54, 2))
	if m.Writes() != 4+3+3+2 {
		t.Errorf("%d raw writes", m.Writes())
	}
}

// TestSaveWrong: P6.2, what is no snapshot answers ErrFrame, also while the power is off, and writes nothing.
func TestSaveWrong(t *testing.T) {
	m := media.New()
	save(t, m, 1, "one")
	save(t, m, 2, "two")
	want, writes := contents(t, m), m.Writes()
	long := strings.Repeat("x", 1000001)
	check := func() {
		t.Helper()
		for _, number := range []int{0, -1, 2147483648, -2, 2147483649, 1 << 32, 1<<32 + 1, math.MinInt32, math.MinInt, math.MaxInt} {
			errno(t, "Save of no number", Save(m, number, "a"), api.ErrFrame)
			errno(t, "Save of no number, without bytes", Save(m, number, ""), api.ErrFrame)
			errno(t, "Save of no number, too long", Save(m, number, long), api.ErrFrame)
		}
		for _, number := range []int{1, 2, 2147483647} {
			errno(t, "Save of a byte too many", Save(m, number, long), api.ErrFrame)
			errno(t, "Save of far too many bytes", Save(m, number, long+long), api.ErrFrame)
		}
	}
	check()
	m.Arm(0)
	check()
	loads(t, "after Saves that are wrong", m, 2, "two")
	errno(t, "Save with none left", Save(m, 3, ""), api.ErrCut)
	check()
	m.On()
	if m.Writes() != writes || !maps.Equal(contents(t, m), want) {
		t.Errorf("Saves that are wrong made %d raw writes", m.Writes()-writes)
	}
}

// TestNil: P6.2 and P6.3, a nil medium answers ErrNil, ahead of what else is wrong.
func TestNil(t *testing.T) {
	errno(t, "Save", Save(nil, 1, "a"), api.ErrNil)
	errno(t, "Save of no number", Save(nil, 0, "a"), api.ErrNil)
	errno(t, "Save of too many bytes", Save(nil, 1, strings.Repeat("x", 1000001)), api.ErrNil)
	fails(t, "nil", nil, api.ErrNil)
}

// TestOff: P6.2 and P6.3, while the power is off, Save and Load answer ErrCut, whatever is there; nothing changes.
func TestOff(t *testing.T) {
	for saved := range 4 {
		m := media.New()
		for number := range saved {
			save(t, m, number+1, textOf(100, byte(number)))
		}
		m.Arm(0)
		errno(t, "Remove with none left", m.Remove(9), api.ErrCut)
		want, writes := len(m.Files()), m.Writes()
		for number := 1; number < 5; number++ {
			errno(t, "Save while off", Save(m, number, "a"), api.ErrCut)
			errno(t, "Save while off", Save(m, number, ""), api.ErrCut)
			fails(t, "off", m, api.ErrCut)
		}
		if len(m.Files()) != want || m.Writes() != writes {
			t.Error("what is done while the power is off changes the medium")
		}
		m.On()
		if saved == 0 {
			fails(t, "on again", m, api.ErrAbsent)
		} else {
			loads(t, "on again", m, saved, textOf(100, byte(saved-1)))
		}
		save(t, m, saved+1, "on")
		loads(t, "saved then", m, saved+1, "on")
	}
}

// TestLoadNone: P6.3, media without a sector in a slot, whatever stands in other files.
func TestLoadNone(t *testing.T) {
	m := media.New()
	fails(t, "an empty medium", m, api.ErrAbsent)
	put(t, m, 2, 0, laid(2, "a")...)
	put(t, m, 3, 0, laid(3, "a")...)
	put(t, m, 1048575, 0, laid(1, "a")...)
	fails(t, "other files", m, api.ErrAbsent)
	save(t, m, 1, "a")
	errno(t, "Remove", m.Remove(1), api.OK)
	fails(t, "a slot that was removed", m, api.ErrAbsent)
	fails(t, "a zero medium", &media.Media{}, api.ErrAbsent)
}

// TestLoadNewest: P6.3, both slots complete: the greater number counts, not what was saved last.
func TestLoadNewest(t *testing.T) {
	for _, c := range []struct{ low, high int }{{1, 2}, {2, 3}, {1, 4}, {1, 2147483646}, {2, 2147483647}, {2147483646, 2147483647}, {255, 256}, {65535, 65536}, {9, 10}, {99, 100}} {
		for _, length := range []int{0, 53, 200} {
			m, other := media.New(), media.New()
			save(t, m, c.low, textOf(length, 1))
			loads(t, "the lower one alone", m, c.low, textOf(length, 1))
			save(t, m, c.high, textOf(70, 2))
			loads(t, "the higher one last", m, c.high, textOf(70, 2))
			save(t, other, c.high, textOf(length, 2))
			loads(t, "the higher one alone", other, c.high, textOf(length, 2))
			save(t, other, c.low, textOf(70, 1))
			loads(t, "the lower one last", other, c.high, textOf(length, 2))
		}
	}
}

// TestLoadFree: P6.3, Load needs no raw write, so it goes on with none left, till one is tried.
func TestLoadFree(t *testing.T) {
	m := media.New()
	save(t, m, 1, textOf(200, 0))
	m.Arm(0)
	for range 3 {
		loads(t, "none left", m, 1, textOf(200, 0))
	}
	errno(t, "Save with none left", Save(m, 2, ""), api.ErrCut)
	fails(t, "off", m, api.ErrCut)
}

// TestLoadBehind: P6.3, what stands behind a snapshot's sectors isn't examined.
func TestLoadBehind(t *testing.T) {
	for _, length := range few {
		for number := 5; number <= 6; number++ {
			data := textOf(length, 4)
			n := len(laid(number, data))
			for _, behind := range [][]string{{junk}, laid(number, data), laid(number+2, data), laid(number-2, textOf(500, 0)), laid(number, textOf(500, 4))[n:]} {
				m := holding(t, number%2, laid(number, data)...)
				put(t, m, number%2, n, behind...)
				loads(t, "something behind", m, number, data)
				m = holding(t, number%2, laid(number, data)...)
				put(t, m, number%2, n+1, behind...)
				put(t, m, number%2, 65535, junk)
				loads(t, "something farther behind", m, number, data)
			}
		}
	}
}

// incomplete checks a slot that isn't complete: Load answers the other slot's snapshot, be its number lower or higher, or else ErrAbsent.
func incomplete(t *testing.T, why string, slot int, all map[place]string) {
	t.Helper()
	m := mediumOf(t, all)
	fails(t, why, m, api.ErrAbsent)
	for _, number := range []int{1 + slot, 2147483647 - slot} {
		save(t, m, number, "other")
		loads(t, why, m, number, "other")
	}
}

// TestLoadFaults: P6.3, each sector of a snapshot of each length in turn is missing, or is not what it must be: the slot isn't complete.
func TestLoadFaults(t *testing.T) {
	for _, length := range few {
		for number := 7; number <= 8; number++ {
			data := textOf(length, 0)
			good := laid(number, data)
			for i, s := range good {
				tampered := func(why, instead string) {
					t.Helper()
					all := contents(t, holding(t, number%2, good...))
					if all[place{number % 2, i}] = instead; instead == "" {
						delete(all, place{number % 2, i})
					}
					incomplete(t, why, number%2, all)
				}
				size, parts := min(length-53*i, 53), uint16(len(good))
				as := func(n int, index, parts uint16) string {
					return sector(uint32(n), index, parts, byte(size), data[53*i:53*i+size])
				}
				tampered("a sector is missing", "")
				tampered("a sector is junk", junk)
				tampered("a sector is zero", strings.Repeat("\x00", 64))
				tampered("a sector's check is one more", s[:63]+string([]byte{s[63] + 1}))
				tampered("a sector's check is wrong", s[:62]+string([]byte{s[62] ^ 128})+s[63:])
				tampered("a sector's check is turned round", s[:62]+s[63:]+s[62:63])
				tampered("a sector of the other slot's number", as(number+1, uint16(i), parts))
				tampered("a sector of no number", as(0, uint16(i), parts))
				tampered("a sector of a number too great", as(number+1<<31, uint16(i), parts))
				tampered("a sector of a later place", as(number, uint16(i+1), parts))
				tampered("a sector of a place 256 later", as(number, uint16(i+256), parts))
				tampered("a sector with a part more", as(number, uint16(i), parts+1))
				tampered("a sector with 256 parts more", as(number, uint16(i), parts+256))
				tampered("a sector without parts", as(number, uint16(i), 0))
				if len(good) > 1 {
					tampered("a sector of another snapshot of the slot", as(number+2, uint16(i), parts))
					tampered("a sector of an older snapshot of the slot", as(number-2, uint16(i), parts))
					tampered("the sector of another place", good[(i+1)%len(good)])
				}
				if len(good) > 2 || i > 0 { // the first of two would be a snapshot of its own
					tampered("a sector with a part less", as(number, uint16(i), parts-1))
				}
			}
		}
	}
}

// TestLoadSizes: P6.3, a part must have the bytes that belong to it: all but the last one 53, the last one 1 to 53, or none if it is the only one; and zero bytes behind them.
func TestLoadSizes(t *testing.T) {
	full := textOf(53, 9)
	for slot, number := range []uint32{6, 7} {
		for parts := uint16(1); parts <= 4; parts++ {
			for i := range parts {
				for size := range 54 {
					var sectors []string
					data := strings.Repeat(full, int(i)) + full[:size] + strings.Repeat(full, int(parts-1-i))
					for k := range parts {
						n := 53
						if k == i {
							n = size
						}
						sectors = append(sectors, sector(number, k, parts, byte(n), full[:n]))
					}
					m := holding(t, slot, sectors...)
					if size == 53 || i == parts-1 && (size > 0 || parts == 1) {
						loads(t, "right sizes", m, int(number), data)
					} else {
						incomplete(t, "a part has too few bytes", slot, contents(t, m))
					}
				}
				for size := 54; size < 256; size++ {
					all := contents(t, holding(t, slot, laid(int(number), strings.Repeat(full, int(parts)))...))
					all[place{slot, int(i)}] = sector(number, i, parts, byte(size), full)
					incomplete(t, "a part has more than 53 bytes", slot, all)
				}
			}
		}
		for size := range 53 {
			for _, extra := range []string{"\x01", "\xff", strings.Repeat("\x00", 52-size) + "x"} {
				incomplete(t, "bytes behind the part's, in its sector", slot, contents(t, holding(t, slot, sector(number, 0, 1, byte(size), full[:size]+extra))))
			}
		}
	}
}

// TestLoadEachByte: P6.3, any byte of any sector changed to any other one: the slot isn't complete.
func TestLoadEachByte(t *testing.T) {
	for number := 1; number <= 2; number++ {
		good := laid(number, textOf(120, 0))
		m := holding(t, number%2, good...)
		put(t, m, 1-number%2, 0, junk)
		for at, s := range good {
			for i := range s {
				for change := 1; change < 256; change++ {
					put(t, m, number%2, at, s[:i]+string([]byte{s[i] + byte(change)})+s[i+1:])
					fails(t, "a byte changed", m, api.ErrAbsent)
				}
			}
			put(t, m, number%2, at, s)
		}
		loads(t, "each byte set right again", m, number, textOf(120, 0))
	}
}

// TestLoadForged: P6.3, sectors whose checks are right, of what is no snapshot of their slot.
func TestLoadForged(t *testing.T) {
	for _, c := range []struct {
		why  string
		slot int
		s    string
	}{
		{"number 0", 0, sector(0, 0, 1, 0, "")},
		{"number 0 in the other slot", 1, sector(0, 0, 1, 1, "a")},
		{"number 2147483648", 0, sector(2147483648, 0, 1, 1, "a")},
		{"number 2147483649", 1, sector(2147483649, 0, 1, 1, "a")},
		{"the greatest number of four bytes", 1, sector(4294967295, 0, 1, 1, "a")},
		{"an even number in the odd slot", 1, sector(2, 0, 1, 1, "a")},
		{"an odd number in the even slot", 0, sector(1, 0, 1, 1, "a")},
		{"the greatest number in the even slot", 0, sector(2147483647, 0, 1, 1, "a")},
		{"no parts", 0, sector(2, 0, 0, 0, "")},
		{"no parts, but a byte", 1, sector(1, 0, 0, 1, "a")},
		{"part 1 of 1", 0, sector(2, 1, 1, 1, "a")},
		{"as many parts as there can be", 1, sector(1, 0, 65535, 53, textOf(53, 0))},
	} {
		incomplete(t, c.why, c.slot, contents(t, holding(t, c.slot, c.s)))
	}
}

// TestLoadGreatest: P6.3, a snapshot of 1000000 bytes is the greatest: one more byte in its last part, or one more part, makes the slot incomplete.
func TestLoadGreatest(t *testing.T) {
	const parts = 18868
	data := textOf(parts*53, 5)
	for size := 45; size <= 53; size++ {
		length := 53*(parts-1) + size
		m := holding(t, 1, laid(3, data[:length])...)
		save(t, m, 2, "two")
		if length <= 1000000 {
			loads(t, "as great as may be", m, 3, data[:length])
		} else {
			loads(t, "too great", m, 2, "two")
		}
	}
	m := holding(t, 1, laid(3, data+"x")...)
	fails(t, "a part too many", m, api.ErrAbsent)
	m = holding(t, 0, laid(4, textOf(65535*53, 1))...)
	fails(t, "as many parts as a sector can tell", m, api.ErrAbsent)
}

// TestApart: R3, what is saved on one medium isn't seen on another, and what Load answered isn't changed by what is saved later.
func TestApart(t *testing.T) {
	m, other := media.New(), media.New()
	save(t, m, 1, "one")
	fails(t, "another medium", other, api.ErrAbsent)
	save(t, other, 4, "four")
	loads(t, "the first medium", m, 1, "one")
	_, kept, _ := Load(m)
	save(t, m, 3, "three")
	if kept != "one" {
		t.Errorf("what was loaded became %q", kept)
	}
}
