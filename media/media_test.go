package media

import (
	"math"
	"math/rand"
	"slices"
	"strings"
	"testing"

	"stevedore/api"
)

// bytesOf is a sector full of one byte.
func bytesOf(b byte) string { return strings.Repeat(string([]byte{b}), api.Sector) }

var a, b = bytesOf('a'), bytesOf('b')

// badFiles and badSectors are no numbers of files or sectors: those next to the valid ones, and far ones.
var (
	badFiles    = []int{-1, 1048576, -2, 1048577, 2097152, math.MinInt32, math.MaxInt32, math.MinInt, math.MaxInt}
	badSectors  = []int{-1, 65536, -64, 65537, 131072, math.MinInt32, math.MaxInt32, math.MinInt, math.MaxInt}
	badLengths  = []int{0, 1, 63, 65, 128, 100000}
	goodFiles   = []int{0, 1, 2, 1000, 65536, 1048574, 1048575}
	goodSectors = []int{0, 1, 15, 16, 255, 256, 65534, 65535}
)

// write writes a sector, which must go well.
func write(t *testing.T, m *Media, file, at int, data string) {
	t.Helper()
	if e := m.Write(file, at, data); e != api.OK {
		t.Fatalf("Write(%d, %d) = %d", file, at, int(e))
	}
}

// holds checks what Read answers where a sector was written.
func holds(t *testing.T, m *Media, file, at int, want string) {
	t.Helper()
	if s, e := m.Read(file, at); s != want || e != api.OK {
		t.Errorf("Read(%d, %d) = %q, %d, want %q", file, at, s, int(e), want)
	}
}

// fails checks what Read answers beside an error.
func fails(t *testing.T, m *Media, file, at int, want api.Errno) {
	t.Helper()
	if s, e := m.Read(file, at); s != "" || e != want {
		t.Errorf("Read(%d, %d) = %q, %d, want error %d", file, at, s, int(e), int(want))
	}
}

// stands checks Files and Writes.
func stands(t *testing.T, m *Media, writes int, files ...int) {
	t.Helper()
	if got := m.Files(); !slices.Equal(got, files) {
		t.Errorf("Files = %v, want %v", got, files)
	}
	if got := m.Writes(); got != writes {
		t.Errorf("Writes = %d, want %d", got, writes)
	}
}

// errno checks an error.
func errno(t *testing.T, what string, got, want api.Errno) {
	t.Helper()
	if got != want {
		t.Errorf("%s = %d, want %d", what, int(got), int(want))
	}
}

// cut is a medium with two files, whose power has failed at a Write: one raw write was left, and is done.
func cut(t *testing.T) *Media {
	t.Helper()
	m := New()
	write(t, m, 2, 5, a)
	m.Arm(1)
	write(t, m, 7, 0, b)
	errno(t, "Write with none left", m.Write(2, 0, a), api.ErrCut)
	return m
}

// TestNew: P3.1.
func TestNew(t *testing.T) {
	m := New()
	if m == nil {
		t.Fatal("New = nil")
	}
	stands(t, m, 0)
	for _, file := range goodFiles {
		if got := m.Size(file); got != 0 {
			t.Errorf("Size(%d) = %d", file, got)
		}
		fails(t, m, file, 0, api.ErrAbsent)
	}
	for i := range 100 {
		write(t, m, 2, i, a)
	}
	stands(t, m, 100, 2)
}

// TestNewApart: P3.1, what is done to one medium isn't seen in another.
func TestNewApart(t *testing.T) {
	m, other := New(), New()
	write(t, m, 2, 0, a)
	m.Arm(0)
	errno(t, "Remove", m.Remove(2), api.ErrCut)
	stands(t, other, 0)
	fails(t, other, 2, 0, api.ErrAbsent)
	write(t, other, 3, 0, b)
	stands(t, m, 1, 2)
}

// TestWrite: P3.2 and P3.3, the first and the last number of a file and a sector among others: each sector holds what was written to it.
func TestWrite(t *testing.T) {
	m, n := New(), 0
	for _, file := range goodFiles {
		for _, at := range goodSectors {
			write(t, m, file, at, bytesOf(byte(n)))
			n++
		}
	}
	stands(t, m, n, goodFiles...)
	n = 0
	for _, file := range goodFiles {
		for _, at := range goodSectors {
			holds(t, m, file, at, bytesOf(byte(n)))
			n++
		}
		if got := m.Size(file); got != 65536 {
			t.Errorf("Size(%d) = %d", file, got)
		}
	}
}

// TestWriteBytes: P3.2, a sector may hold any bytes, in their order, and those of a longer text.
func TestWriteBytes(t *testing.T) {
	var all [256]byte
	for i := range all {
		all[i] = byte(i)
	}
	m := New()
	for at := range 4 {
		write(t, m, 2, at, string(all[64*at:64*at+64]))
	}
	for at := range 4 {
		holds(t, m, 2, at, string(all[64*at:64*at+64]))
	}
	long := strings.Repeat("x", 1000) + a + strings.Repeat("y", 1000)
	write(t, m, 3, 0, long[1000:1064])
	holds(t, m, 3, 0, a)
	// 64 bytes count, not 64 runes.
	write(t, m, 3, 1, strings.Repeat("é", 32))
	errno(t, "Write of 64 runes", m.Write(3, 2, strings.Repeat("é", 64)), api.ErrSector)
	holds(t, m, 3, 1, strings.Repeat("é", 32))
}

// TestWriteAgain: P3.2, a sector becomes what is written last; its neighbours stay, and each Write counts, also one of the same bytes.
func TestWriteAgain(t *testing.T) {
	m := New()
	for at := range 3 {
		write(t, m, 2, at, a)
	}
	write(t, m, 3, 1, a)
	write(t, m, 2, 1, b)
	write(t, m, 2, 1, b)
	holds(t, m, 2, 0, a)
	holds(t, m, 2, 1, b)
	holds(t, m, 2, 2, a)
	holds(t, m, 3, 1, a)
	stands(t, m, 6, 2, 3)
}

// TestWriteWrong: P3.2, arguments that are not valid answer ErrSector, change nothing and use up no raw write.
func TestWriteWrong(t *testing.T) {
	m := New()
	write(t, m, 2, 0, a)
	m.Arm(1)
	for _, file := range badFiles {
		errno(t, "Write to a file that is none", m.Write(file, 0, b), api.ErrSector)
	}
	for _, at := range badSectors {
		errno(t, "Write to a sector that is none", m.Write(2, at, b), api.ErrSector)
	}
	for _, length := range badLengths {
		errno(t, "Write of a wrong length", m.Write(2, 0, strings.Repeat("b", length)), api.ErrSector)
		errno(t, "Write of a wrong length to a new file", m.Write(3, 0, strings.Repeat("b", length)), api.ErrSector)
	}
	errno(t, "Write that is wrong in all", m.Write(-1, -1, ""), api.ErrSector)
	stands(t, m, 1, 2)
	holds(t, m, 2, 0, a)
	if got := m.Size(2); got != 1 {
		t.Errorf("Size = %d", got)
	}
	write(t, m, 2, 1, b)
	errno(t, "Write behind the last", m.Write(2, 2, b), api.ErrCut)
}

// TestRemove: P3.2, all sectors of the file become absent, those of other files stay, and the file can be written anew.
func TestRemove(t *testing.T) {
	m := New()
	for _, file := range []int{0, 2, 3, 1048575} {
		write(t, m, file, 0, a)
		write(t, m, file, 65535, b)
	}
	errno(t, "Remove", m.Remove(2), api.OK)
	stands(t, m, 9, 0, 3, 1048575)
	fails(t, m, 2, 0, api.ErrAbsent)
	fails(t, m, 2, 65535, api.ErrAbsent)
	if m.Size(2) != 0 || m.Size(3) != 65536 {
		t.Error(m.Size(2), m.Size(3))
	}
	holds(t, m, 3, 0, a)
	holds(t, m, 3, 65535, b)
	write(t, m, 2, 1, b)
	fails(t, m, 2, 0, api.ErrAbsent)
	holds(t, m, 2, 1, b)
	if got := m.Size(2); got != 2 {
		t.Errorf("Size = %d", got)
	}
	errno(t, "Remove of the first", m.Remove(0), api.OK)
	errno(t, "Remove of the last", m.Remove(1048575), api.OK)
	stands(t, m, 12, 2, 3)
}

// TestRemoveNone: P3.2, Remove of a file that doesn't exist is a raw write too.
func TestRemoveNone(t *testing.T) {
	m := New()
	for i, file := range goodFiles {
		errno(t, "Remove of no file", m.Remove(file), api.OK)
		stands(t, m, i+1)
	}
	write(t, m, 2, 0, a)
	n := m.Writes()
	m.Arm(3)
	errno(t, "Remove", m.Remove(2), api.OK)
	errno(t, "Remove again", m.Remove(2), api.OK)
	errno(t, "Remove of another", m.Remove(9), api.OK)
	errno(t, "Remove with none left", m.Remove(9), api.ErrCut)
	stands(t, m, n+3)
}

// TestRemoveWrong: P3.2, a number that no file has answers ErrSector, changes nothing and uses up no raw write.
func TestRemoveWrong(t *testing.T) {
	m := New()
	write(t, m, 0, 0, a)
	write(t, m, 1048575, 0, b)
	m.Arm(1)
	for _, file := range badFiles {
		errno(t, "Remove of no number of a file", m.Remove(file), api.ErrSector)
	}
	stands(t, m, 2, 0, 1048575)
	errno(t, "Remove", m.Remove(0), api.OK)
}

// TestRead: P3.3, its errors, and that it changes nothing.
func TestRead(t *testing.T) {
	m := New()
	write(t, m, 2, 5, a)
	for _, file := range badFiles {
		fails(t, m, file, 5, api.ErrSector)
	}
	for _, at := range badSectors {
		fails(t, m, 2, at, api.ErrSector)
		fails(t, m, 3, at, api.ErrSector)
	}
	for _, at := range []int{0, 4, 6, 65535} {
		fails(t, m, 2, at, api.ErrAbsent)
	}
	for _, file := range []int{0, 1, 3, 1048575} {
		fails(t, m, file, 5, api.ErrAbsent)
	}
	stands(t, m, 1, 2)
	if got := m.Size(2); got != 6 {
		t.Errorf("Size = %d", got)
	}
	holds(t, m, 2, 5, a)
	holds(t, m, 2, 5, a)
}

// TestReadIsFree: P3.3 and P3.4, reading uses up no raw write, and goes on with none left, till one is tried.
func TestReadIsFree(t *testing.T) {
	m := New()
	write(t, m, 2, 0, a)
	m.Arm(0)
	for range 3 {
		holds(t, m, 2, 0, a)
		fails(t, m, 2, 1, api.ErrAbsent)
	}
	errno(t, "Write with none left", m.Write(2, 1, b), api.ErrCut)
	fails(t, m, 2, 0, api.ErrCut)
}

// TestFiles: P3.3, the numbers rise, in whatever order the files were written, and come anew with each call.
func TestFiles(t *testing.T) {
	m := New()
	var want []int
	for i := range 200 {
		file := i * 7919 % 1048576
		write(t, m, file, i, a)
		want = append(want, file)
	}
	slices.Sort(want)
	stands(t, m, 200, want...)
	spoilt := m.Files()
	spoilt = append(spoilt, 5, 6)
	for i := range spoilt {
		spoilt[i] = -1
	}
	stands(t, m, 200, want...)
	for i, file := range want {
		if i%3 != 0 {
			errno(t, "Remove", m.Remove(file), api.OK)
		}
	}
	var left []int
	for i := 0; i < len(want); i += 3 {
		left = append(left, want[i])
	}
	stands(t, m, 200+len(want)-len(left), left...)
}

// TestSize: P3.3, the greatest number of a written sector counts, in whatever order they were written.
func TestSize(t *testing.T) {
	m := New()
	for _, c := range []struct{ at, want int }{{0, 1}, {3, 4}, {1, 4}, {3, 4}, {16, 17}, {15, 17}, {65535, 65536}, {0, 65536}} {
		write(t, m, 2, c.at, a)
		if got := m.Size(2); got != c.want {
			t.Errorf("Size after a Write at %d = %d, want %d", c.at, got, c.want)
		}
	}
	for _, file := range append([]int{0, 1, 3, 1048575}, badFiles...) {
		if got := m.Size(file); got != 0 {
			t.Errorf("Size(%d) = %d", file, got)
		}
	}
	stands(t, m, 8, 2)
}

// TestArm: P3.4, so many raw writes are left, whether Write or Remove; the next one answers ErrCut, and is not done.
func TestArm(t *testing.T) {
	for _, c := range []struct{ writes, left int }{{math.MinInt, 0}, {-5, 0}, {-1, 0}, {0, 0}, {1, 1}, {2, 2}, {3, 3}, {10, 10}} {
		for _, last := range []string{"Write", "Remove"} {
			m := New()
			write(t, m, 2, 0, a)
			m.Arm(c.writes)
			for i := range c.left {
				if i%2 == 0 {
					write(t, m, 3, i, b)
				} else {
					errno(t, "Remove", m.Remove(9), api.OK)
				}
			}
			var e api.Errno
			if last == "Write" {
				e = m.Write(2, 0, b)
			} else {
				e = m.Remove(2)
			}
			errno(t, last+" with none left", e, api.ErrCut)
			fails(t, m, 2, 0, api.ErrCut)
			if got := m.Writes(); got != 1+c.left {
				t.Errorf("Arm(%d): Writes = %d", c.writes, got)
			}
			m.On()
			holds(t, m, 2, 0, a)
		}
	}
}

// TestArmFar: P3.4, the greatest number leaves raw writes enough.
func TestArmFar(t *testing.T) {
	m := New()
	m.Arm(math.MaxInt)
	for at := range 100 {
		write(t, m, 2, at, a)
	}
	stands(t, m, 100, 2)
}

// TestArmAgain: P3.4, the last Arm holds, for more or for fewer.
func TestArmAgain(t *testing.T) {
	m := New()
	m.Arm(0)
	m.Arm(2)
	write(t, m, 2, 0, a)
	m.Arm(2)
	write(t, m, 2, 1, a)
	write(t, m, 2, 2, a)
	m.Arm(5)
	m.Arm(0)
	errno(t, "Write", m.Write(2, 3, a), api.ErrCut)
	stands(t, m, 3, 2)
}

// TestArmWhileOff: P3.4, Arm doesn't bring the power back, and On disarms what was armed while it was off.
func TestArmWhileOff(t *testing.T) {
	m := cut(t)
	m.Arm(5)
	errno(t, "Write", m.Write(2, 0, a), api.ErrCut)
	errno(t, "Remove", m.Remove(2), api.ErrCut)
	fails(t, m, 2, 5, api.ErrCut)
	m.Arm(0)
	m.On()
	for at := range 10 {
		write(t, m, 2, at, a)
	}
	stands(t, m, 12, 2, 7)
}

// TestOff: P3.2 to P3.4, while the power is off, each call but Files, Size and Writes fails, ahead of what else is wrong, and nothing changes.
func TestOff(t *testing.T) {
	m := cut(t)
	for range 2 {
		for _, file := range append([]int{2, 7, 9}, badFiles...) {
			errno(t, "Remove", m.Remove(file), api.ErrCut)
			for _, at := range append([]int{5, 0, 9}, badSectors...) {
				errno(t, "Write", m.Write(file, at, b), api.ErrCut)
				errno(t, "Write of a wrong length", m.Write(file, at, b[1:]), api.ErrCut)
				fails(t, m, file, at, api.ErrCut)
			}
		}
		stands(t, m, 2, 2, 7)
		if m.Size(2) != 6 || m.Size(7) != 1 || m.Size(9) != 0 || m.Size(-1) != 0 {
			t.Error(m.Size(2), m.Size(7), m.Size(9), m.Size(-1))
		}
	}
	m.On()
	holds(t, m, 2, 5, a)
	holds(t, m, 7, 0, b)
	fails(t, m, 2, 0, api.ErrAbsent)
	stands(t, m, 2, 2, 7)
}

// TestWrongWithNoneLeft: P3.2, with no raw write left, what isn't valid answers ErrSector, and the power stays on.
func TestWrongWithNoneLeft(t *testing.T) {
	m := New()
	write(t, m, 2, 0, a)
	m.Arm(0)
	errno(t, "Write to no file", m.Write(-1, 0, b), api.ErrSector)
	errno(t, "Write to no sector", m.Write(2, 65536, b), api.ErrSector)
	errno(t, "Write of 63 bytes", m.Write(2, 0, b[1:]), api.ErrSector)
	errno(t, "Write of 65 bytes", m.Write(2, 0, b+"b"), api.ErrSector)
	errno(t, "Remove of no file", m.Remove(1048576), api.ErrSector)
	holds(t, m, 2, 0, a)
	errno(t, "Remove", m.Remove(2), api.ErrCut)
	errno(t, "Write to no file, power off", m.Write(-1, 0, b), api.ErrCut)
	errno(t, "Remove of no file, power off", m.Remove(-1), api.ErrCut)
}

// TestOn: P3.4, On disarms, also while the power is on, and twice does as once.
func TestOn(t *testing.T) {
	for times := 1; times <= 2; times++ {
		armed, off, fresh := New(), cut(t), New()
		armed.Arm(0)
		for _, m := range []*Media{armed, off, fresh} {
			before := m.Writes()
			for range times {
				m.On()
			}
			for at := range 20 {
				write(t, m, 4, at, a)
			}
			if got := m.Writes() - before; got != 20 {
				t.Errorf("%d raw writes counted", got)
			}
			m.Arm(1)
			write(t, m, 4, 0, b)
			errno(t, "Write with none left", m.Write(4, 1, b), api.ErrCut)
		}
	}
}

// TestNil: P3.2 to P3.4, a nil Media.
func TestNil(t *testing.T) {
	var m *Media
	for _, file := range append([]int{2}, badFiles...) {
		for _, at := range append([]int{0}, badSectors...) {
			errno(t, "Write", m.Write(file, at, a), api.ErrNil)
			errno(t, "Write of nothing", m.Write(file, at, ""), api.ErrNil)
			fails(t, m, file, at, api.ErrNil)
		}
		errno(t, "Remove", m.Remove(file), api.ErrNil)
		if got := m.Size(file); got != 0 {
			t.Errorf("Size(%d) = %d", file, got)
		}
	}
	m.Arm(1)
	m.Arm(-1)
	m.On()
	stands(t, m, 0)
}

// TestZero: R1, a Media that New didn't make doesn't panic: it is one without files.
func TestZero(t *testing.T) {
	for range 2 {
		var m Media
		stands(t, &m, 0)
		fails(t, &m, 2, 0, api.ErrAbsent)
		errno(t, "Remove", m.Remove(2), api.OK)
		m.Arm(1)
		write(t, &m, 2, 0, a)
		holds(t, &m, 2, 0, a)
		errno(t, "Write with none left", m.Write(2, 1, a), api.ErrCut)
		m.On()
		stands(t, &m, 2, 2)
	}
}

// TestExample: that of the chapter.
func TestExample(t *testing.T) {
	m := New()
	m.Arm(1)
	errno(t, "Write", m.Write(2, 0, a), api.OK)
	errno(t, "second Write", m.Write(2, 1, b), api.ErrCut)
	fails(t, m, 2, 0, api.ErrCut)
	m.On()
	holds(t, m, 2, 0, a)
	fails(t, m, 2, 1, api.ErrAbsent)
	stands(t, m, 1, 2)
	if got := m.Size(2); got != 1 {
		t.Errorf("Size = %d", got)
	}
}

// step is a raw write to do: a Remove if data is empty.
type step struct {
	file, at int
	data     string
}

func (s step) do(m *Media) api.Errno {
	if s.data == "" {
		return m.Remove(s.file)
	}
	return m.Write(s.file, s.at, s.data)
}

// someSteps makes raw writes to few files and sectors, so that they meet again and again.
func someSteps(r *rand.Rand, n int) []step {
	steps := make([]step, n)
	for i := range steps {
		steps[i] = step{file: r.Intn(4), at: r.Intn(5)}
		if r.Intn(5) > 0 {
			steps[i].data = bytesOf(byte(r.Intn(256)))
		}
	}
	return steps
}

// lastTo is what the steps leave of a sector, told by the words of P3.5: "" if nothing was written to it since its file was last removed.
func lastTo(steps []step, file, at int) string {
	for i := len(steps) - 1; i >= 0; i-- {
		s := steps[i]
		if s.file == file && (s.data == "" || s.at == at) {
			return s.data
		}
	}
	return ""
}

// checkAfter holds all of a medium, whose power is on, against the raw writes that were done on it.
func checkAfter(t *testing.T, m *Media, done []step) {
	t.Helper()
	var files []int
	for file := range 5 {
		size := 0
		for at := range 6 {
			want := lastTo(done, file, at)
			if want == "" {
				fails(t, m, file, at, api.ErrAbsent)
				continue
			}
			holds(t, m, file, at, want)
			size = at + 1
		}
		if size > 0 {
			files = append(files, file)
		}
		if got := m.Size(file); got != size {
			t.Errorf("Size(%d) = %d, want %d", file, got, size)
		}
	}
	stands(t, m, len(done), files...)
}

// TestEachRawWriteFails: P3.5, for each raw write of a list at which the power may fail: those ahead of it were done, in order, and no other; after On the rest follows.
func TestEachRawWriteFails(t *testing.T) {
	r := rand.New(rand.NewSource(1))
	for range 20 {
		steps := someSteps(r, 30)
		for count := range steps {
			m := New()
			m.Arm(count)
			for i, s := range steps {
				want := api.OK
				if i >= count {
					want = api.ErrCut
				}
				errno(t, "raw write", s.do(m), want)
			}
			fails(t, m, 0, 0, api.ErrCut)
			m.On()
			checkAfter(t, m, steps[:count])
			for _, s := range steps[count:] {
				errno(t, "raw write after On", s.do(m), api.OK)
			}
			checkAfter(t, m, steps)
		}
	}
}

// TestManyFailures: P3.5, the power may fail again and again, also at the first raw write after On.
func TestManyFailures(t *testing.T) {
	r := rand.New(rand.NewSource(2))
	for range 50 {
		m := New()
		var done []step
		for range 20 {
			count := r.Intn(6) - 1
			m.Arm(count)
			for _, s := range someSteps(r, 8) {
				if s.do(m) == api.OK {
					done = append(done, s)
					count--
				}
			}
			if max(count, 0) != 0 {
				t.Fatalf("%d raw writes were left", count)
			}
			m.On()
			checkAfter(t, m, done)
		}
	}
}
