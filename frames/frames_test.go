package frames

import (
	"encoding/binary"
	"math"
	"math/rand"
	"slices"
	"strings"
	"testing"

	"stevedore/api"
	"stevedore/nums"
)

// sizes are lengths of a frame's bytes: the first and the last of each number of parts, and some between.
var sizes = []int{0, 1, 2, 54, 55, 56, 57, 109, 110, 111, 164, 165, 166, 219, 220, 221, 274, 275, 276, 300, 329, 330, 331, 384, 385, 386, 400, 439, 440}

// numbers are numbers of frames: the first, the last, and those where a byte more is needed.
var numbers = []int{1, 2, 255, 256, 258, 65535, 65536, 0x01020304, 1<<24 - 1, 1 << 24, math.MaxInt32 - 1, math.MaxInt32}

// notNumbers are no numbers of frames; the four low bytes of some are a valid number.
var notNumbers = []int{0, -1, -2, -math.MaxInt32, math.MinInt32, 1 << 31, 1<<31 + 1, math.MaxUint32, 1 << 32, 1<<32 + 1, 1<<40 + 7, math.MaxInt, math.MinInt, math.MinInt + 1}

// bytesOf is some bytes, each of which differs from its neighbours and none of which is 0.
func bytesOf(size int) string {
	data := make([]byte, size)
	for i := range data {
		data[i] = byte(i%251 + 1)
	}
	return string(data)
}

// raw is 64 bytes laid out as a sector is, whatever they say, with the right checksum.
func raw(number uint32, index, parts, size byte, data string) string {
	out := binary.BigEndian.AppendUint32(nil, number)
	out = append(out, index, parts, size)
	out = append(out, data...)
	out = append(out, make([]byte, 62-len(out))...)
	return string(binary.BigEndian.AppendUint16(out, uint16(nums.Sum(string(out)))))
}

// sized is raw of a part that says how many bytes it has.
func sized(number uint32, index, parts byte, data string) string {
	return raw(number, index, parts, byte(len(data)), data)
}

// lay lays a frame, which must go well.
func lay(t *testing.T, number int, data string) []string {
	t.Helper()
	sectors, e := Lay(number, data)
	if e != api.OK {
		t.Fatalf("Lay(%d, %d bytes): error %d", number, len(data), int(e))
	}
	return sectors
}

// tells checks what Tell answers for the sector of a part.
func tells(t *testing.T, sector string, want Part) {
	t.Helper()
	if p, e := Tell(sector); p != want || e != api.OK {
		t.Errorf("Tell(%q) = %v, %d, want %v", sector, p, int(e), want)
	}
}

// tellsNothing checks what Tell answers for what is no such sector.
func tellsNothing(t *testing.T, why, sector string) {
	t.Helper()
	if p, e := Tell(sector); p != (Part{}) || e != api.ErrFrame {
		t.Errorf("%s: Tell(%q) = %v, %d, want ErrFrame", why, sector, p, int(e))
	}
}

// joins checks what Join answers for the sectors of a frame, with others behind them.
func joins(t *testing.T, sectors []string, number int, data string, parts int) {
	t.Helper()
	n, s, k, e := Join(sectors...)
	if n != number || s != data || k != parts || e != api.OK {
		t.Errorf("Join(%d sectors) = %d, %q, %d, %d, want %d, %q, %d", len(sectors), n, s, k, int(e), number, data, parts)
	}
}

// joinsNothing checks what Join answers for sectors that don't begin with a frame.
func joinsNothing(t *testing.T, why string, sectors ...string) {
	t.Helper()
	if n, s, k, e := Join(sectors...); n != 0 || s != "" || k != 0 || e != api.ErrFrame {
		t.Errorf("%s: Join(%q) = %d, %q, %d, %d, want ErrFrame", why, sectors, n, s, k, int(e))
	}
}

// TestLayBytes: P4.1, sectors written out by hand, the examples of the document among them.
func TestLayBytes(t *testing.T) {
	zeros := strings.Repeat("\x00", 55)
	q := strings.Repeat("q", 55)
	for i, c := range []struct {
		number int
		data   string
		want   []string
	}{
		{1, "ab", []string{"\x00\x00\x00\x01\x00\x01\x02ab" + zeros[2:] + "\xe0\x30"}},
		{1, "", []string{"\x00\x00\x00\x01\x00\x01\x00" + zeros + "\xc8\x18"}},
		{math.MaxInt32, strings.Repeat("\xff", 55), []string{"\x7f\xff\xff\xff\x00\x01\x37" + strings.Repeat("\xff", 55) + "\x13\xef"}},
		{0x01020304, q + "z", []string{sized(0x01020304, 0, 2, q), "\x01\x02\x03\x04\x01\x02\x01z" + zeros[1:] + "\x8f\x3d"}},
		{258, strings.Repeat("q", 440), []string{
			sized(258, 0, 8, q), sized(258, 1, 8, q), sized(258, 2, 8, q), sized(258, 3, 8, q), sized(258, 4, 8, q),
			sized(258, 5, 8, q), sized(258, 6, 8, q), "\x00\x00\x01\x02\x07\x08\x37" + q + "\x3e\xa3",
		}},
		// Bytes of 0 at the end of the data are counted, not cut off.
		{3, "a\x00\x00", []string{raw(3, 0, 1, 3, "a")}},
		{3, zeros, []string{raw(3, 0, 1, 55, "")}},
	} {
		if got := lay(t, c.number, c.data); !slices.Equal(got, c.want) {
			t.Errorf("%d: Lay(%d, %q) = %q, want %q", i, c.number, c.data, got, c.want)
		}
	}
}

// TestLay: P4.1, each number with bytes of each length: the parts in their order, 55 bytes in each but the last.
func TestLay(t *testing.T) {
	for _, size := range sizes {
		data := bytesOf(size)
		var pieces []string
		for rest := data; len(pieces) == 0 || rest != ""; {
			cut := min(55, len(rest))
			pieces = append(pieces, rest[:cut])
			rest = rest[cut:]
		}
		for _, number := range numbers {
			sectors := lay(t, number, data)
			if len(sectors) != len(pieces) {
				t.Fatalf("Lay of %d bytes: %d sectors, want %d", size, len(sectors), len(pieces))
			}
			for i, piece := range pieces {
				if want := sized(uint32(number), byte(i), byte(len(pieces)), piece); sectors[i] != want {
					t.Errorf("Lay(%d, %d bytes)[%d] = %q, want %q", number, size, i, sectors[i], want)
				}
			}
		}
	}
}

// TestLayParts: P4.1, how many sectors each length takes, all lengths.
func TestLayParts(t *testing.T) {
	for size := range 441 {
		want := 1
		for want*55 < size {
			want++
		}
		if got := len(lay(t, 9, bytesOf(size))); got != want {
			t.Errorf("Lay of %d bytes: %d sectors, want %d", size, got, want)
		}
	}
}

// TestLayWrong: P4.1, numbers that no frame has, and more bytes than one has.
func TestLayWrong(t *testing.T) {
	refuses := func(number, size int) {
		t.Helper()
		if sectors, e := Lay(number, bytesOf(size)); sectors != nil || e != api.ErrFrame {
			t.Errorf("Lay(%d, %d bytes) = %q, %d, want ErrFrame", number, size, sectors, int(e))
		}
	}
	for _, number := range notNumbers {
		for _, size := range []int{0, 1, 55, 56, 440, 441} {
			refuses(number, size)
		}
	}
	for _, number := range numbers {
		for _, size := range []int{441, 442, 494, 495, 496, 1000, 100000} {
			refuses(number, size)
		}
	}
}

// TestLayNew: R2, the sectors are the caller's: to change them changes no other answer.
func TestLayNew(t *testing.T) {
	one, other := lay(t, 4, bytesOf(100)), lay(t, 4, bytesOf(100))
	one[0], one[1] = "x", "y"
	if !slices.Equal(other, lay(t, 4, bytesOf(100))) {
		t.Error("Lay answers what it has answered before")
	}
}

// TestTell: P4.2, each part of frames of each number and length.
func TestTell(t *testing.T) {
	for _, number := range numbers {
		for parts := range 8 {
			for i := range parts {
				full := bytesOf(55 * (i + 1))[55*i:]
				tells(t, sized(uint32(number), byte(i), byte(parts+1), full), Part{number, i, parts + 1, full})
			}
			for size := range 56 {
				if size == 0 && parts > 0 {
					continue
				}
				last := bytesOf(size)
				tells(t, sized(uint32(number), byte(parts), byte(parts+1), last), Part{number, parts, parts + 1, last})
			}
		}
	}
}

// TestTellAnyBytes: P4.2, the bytes of a part may be any, 0 at their end too.
func TestTellAnyBytes(t *testing.T) {
	zeros := strings.Repeat("\x00", 55)
	for size := range 56 {
		tells(t, sized(1, 0, 1, zeros[:size]), Part{1, 0, 1, zeros[:size]})
	}
	tells(t, sized(1, 1, 3, zeros), Part{1, 1, 3, zeros})
	for b := range 256 {
		data := "a" + string([]byte{byte(b)})
		tells(t, sized(7, 0, 1, data), Part{7, 0, 1, data})
	}
}

// TestTellLength: P4.2, a sector has 64 bytes.
func TestTellLength(t *testing.T) {
	good := lay(t, 1, "ab")[0]
	tells(t, good, Part{1, 0, 1, "ab"})
	for size := range 64 {
		tellsNothing(t, "too short", good[:size])
		tellsNothing(t, "too short", good[64-size:])
	}
	for _, more := range []string{"\x00", "x", good} {
		tellsNothing(t, "too long", good+more)
		tellsNothing(t, "too long", more+good)
	}
	// The checksum stands where the end of a sector of another length would be.
	short, long := good[:61], good[:62]+"\x00"
	tellsNothing(t, "63 bytes", string(binary.BigEndian.AppendUint16([]byte(short), uint16(nums.Sum(short)))))
	tellsNothing(t, "65 bytes", string(binary.BigEndian.AppendUint16([]byte(long), uint16(nums.Sum(long)))))
}

// TestTellChanged: P4.2, no byte of a sector can be another one: the checksum, or where it stands, tells.
func TestTellChanged(t *testing.T) {
	sectors := append(lay(t, 0x01020304, bytesOf(140)), lay(t, 1, "")...)
	for _, sector := range sectors {
		for i := range 64 {
			for change := 1; change < 256; change++ {
				other := []byte(sector)
				other[i] ^= byte(change)
				tellsNothing(t, "a byte changed", string(other))
			}
		}
	}
}

// TestTellSum: P4.2, the checksum is that of the 62 bytes ahead of it, high byte first, and no other that is like it.
func TestTellSum(t *testing.T) {
	// Their checksum is small enough for another number of two bytes that leaves the same remainder of 65521.
	for number := 1; ; number++ {
		sector := sized(uint32(number), 0, 1, "a")
		sum := binary.BigEndian.Uint16([]byte(sector[62:]))
		if sum > 14 {
			continue
		}
		tells(t, sector, Part{number, 0, 1, "a"})
		tellsNothing(t, "the checksum, and 65521", string(binary.BigEndian.AppendUint16([]byte(sector[:62]), sum+65521)))
		break
	}
	good := lay(t, 1, "ab")[0]
	tellsNothing(t, "checksum turned round", good[:62]+good[63:]+good[62:63])
	tellsNothing(t, "no checksum", good[:62]+"\x00\x00")
}

// TestTellHead: P4.2, all that the head of a sector can say around the edges, with the checksum right, is accepted just where some frame has that part.
func TestTellHead(t *testing.T) {
	some := []byte{0, 1, 2, 3, 6, 7, 8, 9, 10, 16, 127, 128, 129, 254, 255}
	for _, index := range some {
		for _, parts := range some {
			for size := range 256 {
				data := bytesOf(min(size, 55))
				sector := raw(5, index, parts, byte(size), data)
				last := parts >= 1 && index == parts-1
				fits := size == 55 || last && (size >= 1 && size <= 55 || parts == 1 && size == 0)
				if parts >= 1 && parts <= 8 && index < parts && fits {
					tells(t, sector, Part{5, int(index), int(parts), data})
				} else {
					tellsNothing(t, "no part of a frame", sector)
				}
			}
		}
	}
}

// TestTellWrong: P4.2, the wrong sectors that one may think of first, by name; the checksum of each is right.
func TestTellWrong(t *testing.T) {
	full := bytesOf(55)
	for why, sector := range map[string]string{
		"the number 0":                          sized(0, 0, 1, "ab"),
		"the number 2147483648":                 sized(1<<31, 0, 1, "ab"),
		"the number 2147483649":                 sized(1<<31+1, 0, 1, "ab"),
		"the greatest number of four bytes":     sized(math.MaxUint32, 0, 1, "ab"),
		"an index beyond the parts":             sized(1, 1, 1, "ab"),
		"an index far beyond the parts":         sized(1, 255, 8, full),
		"an index of 8":                         sized(1, 8, 8, full),
		"no parts":                              sized(1, 0, 0, "ab"),
		"no parts and no bytes":                 sized(1, 0, 0, ""),
		"nine parts":                            sized(1, 0, 9, full),
		"nine parts, the last":                  sized(1, 8, 9, full),
		"56 bytes":                              raw(1, 0, 1, 56, full),
		"255 bytes":                             raw(1, 0, 1, 255, full),
		"a part of 54 bytes that isn't last":    sized(1, 0, 2, full[:54]),
		"a part of no bytes that isn't last":    sized(1, 3, 8, ""),
		"the last of two parts without bytes":   sized(1, 1, 2, ""),
		"the last of eight parts without bytes": sized(1, 7, 8, ""),
		"padding behind no bytes":               raw(1, 0, 1, 0, "a"),
		"the first byte of padding":             raw(1, 0, 1, 2, "abc"),
		"the last byte of padding":              raw(1, 1, 2, 2, "ab"+strings.Repeat("\x00", 52)+"\x01"),
		"the only byte of padding":              raw(1, 0, 1, 54, full),
	} {
		tellsNothing(t, why, sector)
	}
	tellsNothing(t, "zeros", strings.Repeat("\x00", 64))
	tellsNothing(t, "ones", strings.Repeat("\xff", 64))
}

// TestTellPadding: P4.2, each byte of the padding is 0.
func TestTellPadding(t *testing.T) {
	for size := range 55 {
		for at := size; at < 55; at++ {
			data := []byte(bytesOf(size) + strings.Repeat("\x00", 55-size))
			data[at] = 1
			tellsNothing(t, "padding", raw(1, 0, 1, byte(size), string(data)))
		}
	}
}

// TestJoin: P4.3 and P4.4, a frame of each number and length, alone and with whatever behind it.
func TestJoin(t *testing.T) {
	for _, number := range numbers {
		for _, size := range sizes {
			data := bytesOf(size)
			sectors := lay(t, number, data)
			parts := len(sectors)
			joins(t, sectors, number, data, parts)
			for _, behind := range [][]string{
				{""}, {"junk"}, sectors, sectors[parts-1:], lay(t, 5, "b"), {strings.Repeat("\x00", 64)}, make([]string, 20),
				{sized(uint32(number), byte(parts), byte(parts+1), "c")},
			} {
				joins(t, append(slices.Clip(sectors), behind...), number, data, parts)
			}
		}
	}
}

// TestJoinAnyBytes: P4.4, the bytes of a frame may be any, zeros too.
func TestJoinAnyBytes(t *testing.T) {
	r := rand.New(rand.NewSource(4))
	for range 2000 {
		data := make([]byte, r.Intn(441))
		if r.Intn(4) > 0 {
			r.Read(data)
		}
		number := 1 + r.Intn(math.MaxInt32)
		sectors := lay(t, number, string(data))
		joins(t, append(slices.Clip(sectors), sectors...), number, string(data), len(sectors))
	}
}

// TestJoinNothing: P4.3, without sectors there is no frame.
func TestJoinNothing(t *testing.T) {
	joinsNothing(t, "no sectors")
	joinsNothing(t, "no sectors", []string{}...)
	joinsNothing(t, "an empty sector", "")
	joinsNothing(t, "empty sectors", "", "")
}

// TestJoinMissing: P4.3 and P4.4, a frame that lacks its last sectors, its first ones, or one between.
func TestJoinMissing(t *testing.T) {
	for _, size := range sizes {
		sectors := lay(t, 6, bytesOf(size))
		for i := range sectors {
			joinsNothing(t, "the last are missing", sectors[:i]...)
			joinsNothing(t, "one is missing", slices.Delete(slices.Clone(sectors), i, i+1)...)
			if i > 0 {
				joinsNothing(t, "the first are missing", sectors[i:]...)
				joinsNothing(t, "the last are missing, the frame is behind", append(slices.Clone(sectors[:i]), sectors...)...)
			}
		}
	}
}

// TestJoinOrder: P4.3, two sectors of a frame change places, or one stands twice.
func TestJoinOrder(t *testing.T) {
	sectors := lay(t, 6, bytesOf(440))
	for i := range sectors {
		for j := range i {
			turned := slices.Clone(sectors)
			turned[i], turned[j] = turned[j], turned[i]
			joinsNothing(t, "out of order", turned...)
			turned[i] = turned[j]
			joinsNothing(t, "one in the place of another", turned...)
			joinsNothing(t, "one twice", slices.Insert(slices.Clone(sectors), j+1, sectors[j])...)
		}
	}
}

// TestJoinMixed: P4.3, one sector is of a frame of another number, or of another number of parts.
func TestJoinMixed(t *testing.T) {
	data := bytesOf(440)
	for parts := 2; parts <= 8; parts++ {
		sectors := lay(t, 6, data[:55*parts])
		other := lay(t, 7, data[:55*parts])
		for i := range sectors {
			mixed := slices.Clone(sectors)
			mixed[i] = other[i]
			joinsNothing(t, "another number", mixed...)
			for count := max(i+1, 1); count <= 8; count++ {
				if count == parts {
					continue
				}
				mixed[i] = sized(6, byte(i), byte(count), data[55*i:55*i+55])
				if i == 0 && count == 1 {
					joins(t, mixed, 6, data[:55], 1)
				} else {
					joinsNothing(t, "another number of parts", append(slices.Clone(mixed), other...)...)
				}
			}
		}
	}
}

// TestJoinWrong: P4.3, one sector of a frame is none, at each place.
func TestJoinWrong(t *testing.T) {
	sectors := lay(t, 6, bytesOf(300))
	for i, sector := range sectors {
		for why, wrong := range map[string]string{
			"nothing":      "",
			"63 bytes":     sector[:63],
			"65 bytes":     sector + "\x00",
			"a wrong sum":  sector[:63] + string([]byte{sector[63] ^ 1}),
			"a torn byte":  sector[:20] + "!" + sector[21:],
			"zeros":        strings.Repeat("\x00", 64),
			"54 bytes":     sized(6, byte(i), 6, bytesOf(54)),
			"no bytes":     sized(6, byte(i), 6, ""),
			"the number 0": sized(0, byte(i), 6, bytesOf(55)),
		} {
			if why == "54 bytes" && i == len(sectors)-1 {
				continue
			}
			torn := slices.Clone(sectors)
			torn[i] = wrong
			joinsNothing(t, why, torn...)
			joinsNothing(t, why+", a frame behind", append(torn, sectors...)...)
		}
	}
}

// TestJoinLay: P4.4, whatever sectors Join accepts: to lay what it answers gives the same sectors.
func TestJoinLay(t *testing.T) {
	r := rand.New(rand.NewSource(44))
	accepted := 0
	for range 20000 {
		parts := 1 + r.Intn(3)
		var sectors []string
		for i := range parts + r.Intn(2) {
			size := []int{55, 55, 55, 54, 1, 0}[r.Intn(6)]
			number := uint32(1 + r.Intn(8)/7)
			sectors = append(sectors, sized(number, byte(i), byte(parts), bytesOf(size)))
		}
		before := slices.Clone(sectors)
		number, data, count, e := Join(sectors...)
		if !slices.Equal(sectors, before) {
			t.Fatal("Join changed what it was given")
		}
		if e != api.OK {
			continue
		}
		accepted++
		if again := lay(t, number, data); len(again) != count || !slices.Equal(again, sectors[:count]) {
			t.Fatalf("Lay of what Join returned = %q, want %q", again, sectors[:count])
		}
	}
	if accepted < 1000 || accepted > 19000 {
		t.Errorf("%d of 20000 were accepted", accepted)
	}
}
