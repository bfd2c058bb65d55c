package nums

import (
	"math"
	"math/big"
	"strings"
	"testing"

	"stevedore/api"
)

// encodings pairs numbers with their bytes, written out by hand: each length from one byte to nine, first and last number of it.
var encodings = []struct {
	n     int
	bytes string
}{
	{0, "\x00"},
	{1, "\x01"},
	{5, "\x05"},
	{127, "\x7f"},
	{128, "\x80\x01"},
	{129, "\x81\x01"},
	{255, "\xff\x01"},
	{256, "\x80\x02"},
	{300, "\xac\x02"},
	{1<<14 - 1, "\xff\x7f"},
	{1 << 14, "\x80\x80\x01"},
	{1<<21 - 1, "\xff\xff\x7f"},
	{1 << 21, "\x80\x80\x80\x01"},
	{1<<28 - 1, "\xff\xff\xff\x7f"},
	{1 << 28, "\x80\x80\x80\x80\x01"},
	{1<<35 - 1, "\xff\xff\xff\xff\x7f"},
	{1 << 35, "\x80\x80\x80\x80\x80\x01"},
	{1<<42 - 1, "\xff\xff\xff\xff\xff\x7f"},
	{1 << 42, "\x80\x80\x80\x80\x80\x80\x01"},
	{1<<49 - 1, "\xff\xff\xff\xff\xff\xff\x7f"},
	{1 << 49, "\x80\x80\x80\x80\x80\x80\x80\x01"},
	{1<<56 - 1, "\xff\xff\xff\xff\xff\xff\xff\x7f"},
	{1 << 56, "\x80\x80\x80\x80\x80\x80\x80\x80\x01"},
	{1 << 62, "\x80\x80\x80\x80\x80\x80\x80\x80\x40"},
	{math.MaxInt, "\xff\xff\xff\xff\xff\xff\xff\xff\x7f"},
}

// rests are what may stand behind an encoding: it must come back as it is.
var rests = []string{"", "\x00", "\x80", "\xff\x7f", "rest", strings.Repeat("\x80", 20)}

// notNumbers begin with no encoding of a number.
var notNumbers = []string{
	"",
	"\x80",
	"\xff",
	"\xff\xff\xff\xff\xff\xff\xff\xff",
	"\xff\xff\xff\xff\xff\xff\xff\xff\xff",
	// A last digit of 0 is one too many.
	"\x80\x00",
	"\xff\x00",
	"\x80\x80\x00",
	"\x80\x00rest",
	"\xff\xff\xff\xff\xff\xff\xff\xff\x00",
	// Ten bytes, or more.
	"\x80\x80\x80\x80\x80\x80\x80\x80\x80\x00",
	"\x80\x80\x80\x80\x80\x80\x80\x80\x80\x01",
	"\xff\xff\xff\xff\xff\xff\xff\xff\xff\x01",
	"\x80\x80\x80\x80\x80\x80\x80\x80\x80\x02",
	"\x80\x80\x80\x80\x80\x80\x80\x80\x80\x80\x01",
	strings.Repeat("\xff", 100) + "\x01",
}

// TestPutNumbers: P1.1, numbers.
func TestPutNumbers(t *testing.T) {
	if got := Put(); got != "" {
		t.Errorf("Put() = %q", got)
	}
	all, want := []int{}, ""
	for _, c := range encodings {
		if got := Put(c.n); got != c.bytes {
			t.Errorf("Put(%d) = %q, want %q", c.n, got, c.bytes)
		}
		all, want = append(all, c.n), want+c.bytes
	}
	if got := Put(all...); got != want {
		t.Errorf("Put of all = %q, want %q", got, want)
	}
	if got := Put(0, 127, 128); got != "\x00\x7f\x80\x01" {
		t.Errorf("Put(0, 127, 128) = %q", got)
	}
}

// TestPutNegative: P1.1, a number below 0 counts as 0.
func TestPutNegative(t *testing.T) {
	for _, n := range []int{-1, -2, -127, -128, -129, math.MinInt32, math.MinInt + 1, math.MinInt} {
		if got := Put(n); got != "\x00" {
			t.Errorf("Put(%d) = %q", n, got)
		}
	}
	if got := Put(-1, 5, -128, 128); got != "\x00\x05\x00\x80\x01" {
		t.Errorf("Put of a mix = %q", got)
	}
}

// TestPutLeavesNumbers: R2, neither the numbers nor the room behind them change.
func TestPutLeavesNumbers(t *testing.T) {
	ns := []int{-1, 300, 7, 8}
	Put(ns[:2]...)
	for i, want := range []int{-1, 300, 7, 8} {
		if ns[i] != want {
			t.Errorf("number %d became %d", i, ns[i])
		}
	}
}

// TestText: P1.1, texts.
func TestText(t *testing.T) {
	for _, c := range []struct{ s, want string }{
		{"", "\x00"},
		{"a", "\x01a"},
		{"ab", "\x02ab"},
		{"\x00", "\x01\x00"},
		{"\x80\xff", "\x02\x80\xff"},
		{"é", "\x02\xc3\xa9"},
		{strings.Repeat("x", 127), "\x7f" + strings.Repeat("x", 127)},
		{strings.Repeat("x", 128), "\x80\x01" + strings.Repeat("x", 128)},
		{strings.Repeat("x", 16384), "\x80\x80\x01" + strings.Repeat("x", 16384)},
	} {
		if got := Text(c.s); got != c.want {
			t.Errorf("Text(%q) = %q, want %q", c.s, got, c.want)
		}
	}
}

// TestTake: P1.2, numbers.
func TestTake(t *testing.T) {
	for _, c := range encodings {
		for _, rest := range rests {
			n, left, e := Take(c.bytes + rest)
			if n != c.n || left != rest || e != api.OK {
				t.Errorf("Take(%q) = %d, %q, %d", c.bytes+rest, n, left, int(e))
			}
		}
	}
	for _, data := range notNumbers {
		if n, left, e := Take(data); n != 0 || left != "" || e != api.ErrBytes {
			t.Errorf("Take(%q) = %d, %q, %d, want ErrBytes", data, n, left, int(e))
		}
	}
}

// TestTakeCut: P1.2, an encoding that is cut off is none.
func TestTakeCut(t *testing.T) {
	for _, c := range encodings {
		for cut := range len(c.bytes) {
			if n, left, e := Take(c.bytes[:cut]); n != 0 || left != "" || e != api.ErrBytes {
				t.Errorf("Take(%q) = %d, %q, %d, want ErrBytes", c.bytes[:cut], n, left, int(e))
			}
		}
	}
}

// TestTakeText: P1.2, texts.
func TestTakeText(t *testing.T) {
	long := strings.Repeat("x", 128)
	for _, c := range []struct{ data, s, rest string }{
		{"\x00", "", ""},
		{"\x00abc", "", "abc"},
		{"\x01a", "a", ""},
		{"\x02ab", "ab", ""},
		{"\x02abc", "ab", "c"},
		{"\x02\x80\x00\x80", "\x80\x00", "\x80"},
		{"\x80\x01" + long, long, ""},
		{"\x80\x01" + long + "\x80", long, "\x80"},
	} {
		s, rest, e := TakeText(c.data)
		if s != c.s || rest != c.rest || e != api.OK {
			t.Errorf("TakeText(%q) = %q, %q, %d", c.data, s, rest, int(e))
		}
	}
}

// TestTakeTextWrong: P1.2, no text: no length, or fewer bytes than it says.
func TestTakeTextWrong(t *testing.T) {
	wrong := []string{
		"\x01",
		"\x03ab",
		"\x80\x00ab",
		"\x80\x01" + strings.Repeat("x", 127),
		"\xff\xff\xff\xff\x07abc",
		"\xff\xff\xff\xff\xff\xff\xff\xff\x7fabc",
	}
	for _, data := range append(wrong, notNumbers...) {
		if s, rest, e := TakeText(data); s != "" || rest != "" || e != api.ErrBytes {
			t.Errorf("TakeText(%q) = %q, %q, %d, want ErrBytes", data, s, rest, int(e))
		}
	}
}

// TestName: P1.3.
func TestName(t *testing.T) {
	for _, c := range []struct {
		s    string
		want api.Errno
	}{
		{"", api.ErrName},
		{"a", api.OK},
		{"each", api.OK},
		{"A-1.b_2/~!", api.OK},
		{"a b", api.ErrName},
		{" a", api.ErrName},
		{"a ", api.ErrName},
		{"a\n", api.ErrName},
		{"\x00", api.ErrName},
		{"ABCDEFGHIJKL", api.OK},
		{"ABCDEFGHIJK ", api.ErrName},
		{"ABCDEFGHIJK\x7f", api.ErrName},
		{"ABCDEFGHIJKLM", api.ErrText},
		// Length comes first, and counts bytes.
		{"ABCDEFGHIJKL ", api.ErrText},
		{strings.Repeat(" ", 12), api.ErrName},
		{strings.Repeat(" ", 13), api.ErrText},
		{"éééééé", api.ErrName},
		{"ééééééé", api.ErrText},
		{strings.Repeat("a", 1000), api.ErrText},
	} {
		if got := Name(c.s); got != c.want {
			t.Errorf("Name(%q) = %d, want %d", c.s, int(got), int(c.want))
		}
	}
}

// TestNameBytes: P1.3, each byte alone, and at each place of a name: 33 to 126 may stand there, no other.
func TestNameBytes(t *testing.T) {
	for b := range 256 {
		want := api.ErrName
		if 33 <= b && b <= 126 {
			want = api.OK
		}
		s := string([]byte{byte(b)})
		if got := Name(s); got != want {
			t.Errorf("Name of the byte %d = %d, want %d", b, int(got), int(want))
		}
		for place := range api.MaxText {
			name := strings.Repeat("n", place) + s + strings.Repeat("n", api.MaxText-1-place)
			if got := Name(name); got != want {
				t.Errorf("Name(%q) = %d, want %d", name, int(got), int(want))
			}
		}
	}
}

// TestSum: P1.4, sums worked out by hand.
func TestSum(t *testing.T) {
	for _, c := range []struct {
		data string
		want int
	}{
		{"", 1},
		{"\x00", 31},
		{"a", 128},
		{"\xff", 286},
		{"ab", 4066},
		{"ba", 4096},
		{"abc", 60624},  // 126145 - 65521
		{"abcd", 44856}, // 60624*31 + 100 = 1879444, less 28*65521
		{"\x00\x00\x00", 29791},
		{"\x00\x00\x00\x00", 6227}, // 923521 - 14*65521
		{"\x25\x05\x11", 65520},    // 31 + 37 = 68, 68*31 + 5 = 2113, 2113*31 + 17
		{"\x25\x05\x12", 0},        // one more: the modulus itself
		{"\x25\x05\x13", 1},
	} {
		if got := Sum(c.data); got != c.want {
			t.Errorf("Sum(%q) = %d, want %d", c.data, got, c.want)
		}
	}
}

// exactSum is the same polynomial without a bound, reduced at the end.
func exactSum(data string) int {
	sum := big.NewInt(1)
	for i := range len(data) {
		sum.Mul(sum, big.NewInt(31))
		sum.Add(sum, big.NewInt(int64(data[i])))
	}
	return int(sum.Mod(sum, big.NewInt(65521)).Int64())
}

// TestSumLong: P1.4, data so long that an unreduced sum overflows.
func TestSumLong(t *testing.T) {
	for _, unit := range []string{"\x00", "\x01", "\x7f", "\x80", "\xff", "stevedore", "\xff\x00\x80"} {
		for _, times := range []int{1, 2, 3, 4, 12, 13, 14, 62, 100, 1000} {
			data := strings.Repeat(unit, times)
			if got, want := Sum(data), exactSum(data); got != want {
				t.Errorf("Sum of %d times %q = %d, want %d", times, unit, got, want)
			}
		}
	}
}

// TestRoundTrip: P1.5, Take and TakeText give back what Put and Text made, and the rest unchanged.
func TestRoundTrip(t *testing.T) {
	check := func(n int) {
		for _, rest := range rests {
			if got, left, e := Take(Put(n) + rest); got != n || left != rest || e != api.OK {
				t.Errorf("Take(Put(%d) + %q) = %d, %q, %d", n, rest, got, left, int(e))
			}
		}
	}
	for n := range 1 << 15 {
		check(n)
	}
	for shift := range 63 {
		for d := -2; d <= 2; d++ {
			check(max(1<<shift+d, 0))
		}
	}
	check(math.MaxInt - 1)
	check(math.MaxInt)
	for n := range 300 {
		s := strings.Repeat("\x80", n)
		for _, rest := range rests {
			if got, left, e := TakeText(Text(s) + rest); got != s || left != rest || e != api.OK {
				t.Errorf("TakeText of %d bytes and %q = %q, %q, %d", n, rest, got, left, int(e))
			}
		}
	}
}

// TestSequence: P1.5, numbers and texts in a row are taken up one by one.
func TestSequence(t *testing.T) {
	data := Put(7, 300, -4) + Text("bin") + Put(0) + Text("")
	for _, want := range []int{7, 300, 0} {
		n, rest, e := Take(data)
		if n != want || e != api.OK {
			t.Fatalf("%d, %d, want %d", n, int(e), want)
		}
		data = rest
	}
	s, data, e := TakeText(data)
	if s != "bin" || e != api.OK {
		t.Fatalf("%q, %d", s, int(e))
	}
	n, data, e := Take(data)
	if n != 0 || e != api.OK {
		t.Fatalf("%d, %d", n, int(e))
	}
	s, data, e = TakeText(data)
	if s != "" || data != "" || e != api.OK {
		t.Fatalf("%q, %q, %d", s, data, int(e))
	}
}

// checkOneForm: what Take or TakeText accepts of data is what Put or Text makes; a number that begins it isn't refused.
func checkOneForm(t *testing.T, data string) {
	n, rest, e := Take(data)
	if e == api.OK && (n < 0 || Put(n)+rest != data) {
		t.Errorf("Take(%q) = %d, %q", data, n, rest)
	}
	if e != api.OK && (e != api.ErrBytes || n != 0 || rest != "") {
		t.Errorf("Take(%q) = %d, %q, %d", data, n, rest, int(e))
	}
	s, rest, e := TakeText(data)
	if e == api.OK && Text(s)+rest != data {
		t.Errorf("TakeText(%q) = %q, %q", data, s, rest)
	}
	if e != api.OK && (e != api.ErrBytes || s != "" || rest != "") {
		t.Errorf("TakeText(%q) = %q, %q, %d", data, s, rest, int(e))
	}
}

// TestOneForm: P1.5, every accepted encoding is the one that Put or Text makes: all data of up to two bytes, and rows of telling bytes up to eleven.
func TestOneForm(t *testing.T) {
	checkOneForm(t, "")
	for a := range 256 {
		checkOneForm(t, string([]byte{byte(a)}))
		for b := range 256 {
			checkOneForm(t, string([]byte{byte(a), byte(b)}))
		}
	}
	telling := []string{"\x00", "\x01", "\x7f", "\x80", "\xff"}
	for length := range 11 {
		for _, high := range []string{"\x80", "\x81", "\xff"} {
			for _, x := range telling {
				for _, y := range telling {
					checkOneForm(t, strings.Repeat(high, length)+x+y)
				}
			}
		}
	}
}

// FuzzOneForm: P1.5, for any data; run by go test -fuzz FuzzOneForm ./nums.
func FuzzOneForm(f *testing.F) {
	for _, data := range notNumbers {
		f.Add(data)
	}
	for _, c := range encodings {
		f.Add(c.bytes + "rest")
	}
	f.Fuzz(checkOneForm)
}
