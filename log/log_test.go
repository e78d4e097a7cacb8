package log

import (
	"bytes"
	"math"
	"math/rand"
	"slices"
	"testing"

	"concierge/api"
	"concierge/disk"
	"concierge/frame"
)

// The calls as the chapter lists them: another signature does not compile.
var (
	_ func(d *disk.Disk, from, blocks, gen int, first []byte) (*Log, api.Errno) = Begin
	_ func(d *disk.Disk, from, blocks int) (*Log, [][]byte, api.Errno)          = Open
	_ func(l *Log, b []byte) api.Errno                                          = (*Log).Append
	_ func(*Log) int                                                            = (*Log).Gen
	_ func(*Log) int                                                            = (*Log).Seq
	_ func(*Log) int                                                            = (*Log).Room
	_ [api.BlockSize]byte                                                       = [64]byte{}
	_ [api.MaxRecord]byte                                                       = [65536]byte{}
	_ [api.MaxGen >> 50]byte                                                    = [1024]byte{}
)

const maxGen = 1152921504606846976 // 2^60

// someBytes returns n bytes, the same in each run.
func someBytes(n int) []byte {
	b := make([]byte, n)
	rand.New(rand.NewSource(int64(n) + 1)).Read(b)
	return b
}

// record is the data of a frame of so many bytes, with c at its beginning and end.
func record(t *testing.T, size int, c byte) []byte {
	t.Helper()
	for n := range size {
		if frame.Size(n) == size {
			b := someBytes(n)
			for _, i := range []int{0, n - 1} {
				if n > 0 {
					b[i] = c
				}
			}
			return b
		}
	}
	t.Fatal("no frame has", size, "bytes")
	return nil
}

// code is a frame's bytes.
func code(gen, seq int, data string) []byte {
	return frame.Encode(api.Frame{Gen: gen, Seq: seq, Data: []byte(data)})
}

// fresh returns a disk of that many blocks of zero bytes.
func fresh(t *testing.T, blocks int) *disk.Disk {
	t.Helper()
	d, errno := disk.New(blocks)
	if errno != api.OK {
		t.Fatal(blocks, errno)
	}
	return d
}

// of returns a disk that holds the parts one after the other, and zero bytes up to so many blocks.
func of(t *testing.T, blocks int, parts ...[]byte) *disk.Disk {
	t.Helper()
	image := slices.Concat(parts...)
	image = append(image, make([]byte, blocks*64-len(image))...)
	d, errno := disk.Of(image)
	if errno != api.OK {
		t.Fatal(blocks, errno)
	}
	return d
}

func begins(t *testing.T, d *disk.Disk, from, blocks, gen int, first []byte) *Log {
	t.Helper()
	l, errno := Begin(d, from, blocks, gen, first)
	if errno != api.OK || l == nil {
		t.Fatalf("Begin at %d, %d blocks, generation %d: %d", from, blocks, gen, errno)
	}
	return l
}

func appends(t *testing.T, l *Log, b []byte) {
	t.Helper()
	if errno := l.Append(b); errno != api.OK {
		t.Fatalf("Append of %d bytes: %d", len(b), errno)
	}
}

// tells fails unless the log is of that generation and has so many records and so much room.
func tells(t *testing.T, what string, l *Log, gen, seq, room int) {
	t.Helper()
	if l.Gen() != gen || l.Seq() != seq || l.Room() != room {
		t.Errorf("%s: generation %d, %d records, room %d, not %d, %d, %d", what, l.Gen(), l.Seq(), l.Room(), gen, seq, room)
	}
}

func sameRecords(a, b [][]byte) bool {
	return slices.EqualFunc(a, b, bytes.Equal)
}

// roomOf is how many bytes of so many blocks are left behind the frames of the records.
func roomOf(blocks int, records [][]byte) int {
	room := blocks * 64
	for _, b := range records {
		room -= frame.Size(len(b))
	}
	return room
}

// finds fails unless Open finds the records, of that generation.
func finds(t *testing.T, what string, d *disk.Disk, from, blocks, gen int, records ...[]byte) *Log {
	t.Helper()
	l, found, errno := Open(d, from, blocks)
	if errno != api.OK || !sameRecords(found, records) {
		t.Fatalf("%s: %d, %d records, not these %d", what, errno, len(found), len(records))
	}
	tells(t, what, l, gen, len(records), roomOf(blocks, records))
	return l
}

// findsNone fails unless Open answers that error only.
func findsNone(t *testing.T, what string, d *disk.Disk, from, blocks int, e api.Errno) {
	t.Helper()
	if l, found, errno := Open(d, from, blocks); l != nil || len(found) != 0 || errno != e {
		t.Errorf("%s: %v, %d records, %d, not %d", what, l, len(found), errno, e)
	}
}

// This is the chapter's example.
func TestExample(t *testing.T) {
	d := fresh(t, 4)
	l := begins(t, d, 0, 2, 1, []byte("ab"))
	appends(t, l, []byte("c"))
	tells(t, "the example", l, 1, 2, 81)
	finds(t, "the example", d, 0, 2, 1, []byte("ab"), []byte("c"))
	want := slices.Concat(code(1, 0, "ab"), code(1, 1, "c"), make([]byte, 4*64-47))
	if !bytes.Equal(d.Image(), want) {
		t.Errorf("%x", d.Image())
	}
}

// P7.1

// The areas of a disk of four blocks, and what is none.
var someAreas = []struct {
	from, blocks int
	valid        bool
}{
	{0, 1, true}, {0, 4, true}, {1, 3, true}, {3, 1, true}, {1, 1, true}, {2, 2, true},
	{0, 0, false}, {0, -1, false}, {2, 0, false}, {4, 0, false}, {5, -1, false}, {0, math.MinInt, false},
	{0, 5, false}, {1, 4, false}, {3, 2, false}, {4, 1, false}, {5, 1, false},
	{-1, 1, false}, {-1, 2, false}, {-4, 5, false}, {math.MinInt, 1, false}, {math.MinInt, math.MaxInt, false},
	{0, math.MaxInt, false}, {1, math.MaxInt, false}, {3, math.MaxInt, false}, {4, math.MaxInt, false},
	{math.MaxInt, 1, false}, {math.MaxInt, math.MaxInt, false}, {math.MaxInt, math.MinInt, false},
	{math.MinInt, math.MinInt, false}, {0, 1 << 58, false}, {1, 1 << 58, false}, {1 << 58, 1, false},
}

func TestBeginOfAreas(t *testing.T) {
	for _, a := range someAreas {
		d := fresh(t, 4)
		l, errno := Begin(d, a.from, a.blocks, 1, []byte("ab"))
		if !a.valid {
			if l != nil || errno != api.ErrArg || d.Calls() != 0 {
				t.Errorf("%v: %v, %d, %d calls", a, l, errno, d.Calls())
			}
			continue
		}
		if errno != api.OK {
			t.Fatal(a, errno)
		}
		tells(t, "begun", l, 1, 1, a.blocks*64-24)
		want := make([]byte, 256)
		copy(want[a.from*64:], code(1, 0, "ab"))
		if !bytes.Equal(d.Image(), want) {
			t.Errorf("%v: %x", a, d.Image())
		}
	}
}

func TestBeginOfGenerations(t *testing.T) {
	for _, gen := range []int{1, 2, 255, 256, 1 << 32, maxGen - 1, maxGen} {
		d := fresh(t, 2)
		l := begins(t, d, 0, 2, gen, []byte("ab"))
		tells(t, "begun", l, gen, 1, 104)
		finds(t, "begun", d, 0, 2, gen, []byte("ab"))
	}
	for _, gen := range []int{0, -1, -maxGen, math.MinInt, maxGen + 1, 2 * maxGen, math.MaxInt} {
		d := fresh(t, 2)
		if l, errno := Begin(d, 0, 2, gen, []byte("ab")); l != nil || errno != api.ErrArg || d.Calls() != 0 {
			t.Errorf("%d: %v, %d, %d calls", gen, l, errno, d.Calls())
		}
	}
}

// The first record fits, up to the last byte of the area, or nothing is written.
func TestBeginOfSizes(t *testing.T) {
	for _, e := range []struct{ blocks, most int }{{1, 42}, {2, 106}, {3, 169}, {4, 233}, {1024, 65512}, {1025, 65536}, {1026, 65536}, {4096, 65536}} {
		for _, n := range []int{0, 1, e.most - 1, e.most, e.most + 1, e.most + 2, 65537, 1 << 19} {
			d := fresh(t, e.blocks)
			first := someBytes(n)
			l, errno := Begin(d, 0, e.blocks, 3, first)
			if n > e.most {
				if l != nil || errno != api.ErrFull || d.Calls() != 0 {
					t.Errorf("%d bytes in %d blocks: %v, %d, %d calls", n, e.blocks, l, errno, d.Calls())
				}
				continue
			}
			if errno != api.OK {
				t.Fatal(e.blocks, n, errno)
			}
			tells(t, "begun", l, 3, 1, e.blocks*64-frame.Size(n))
			finds(t, "begun", d, 0, e.blocks, 3, first)
		}
	}
}

// What was in the area is not kept: neither behind the new record nor where an older log had its records.
func TestBeginOverAnother(t *testing.T) {
	d := of(t, 8, someBytes(8*64))
	before := d.Image()
	l := begins(t, d, 2, 4, 7, []byte("old"))
	for range 5 {
		appends(t, l, []byte("older"))
	}
	for i, gen := range []int{8, 7, 1, maxGen} {
		first := someBytes(i * 40)
		l = begins(t, d, 2, 4, gen, first)
		finds(t, "begun again", d, 2, 4, gen, first)
		appends(t, l, []byte("more"))
		finds(t, "gone on", d, 2, 4, gen, first, []byte("more"))
	}
	after := d.Image()
	if !bytes.Equal(after[:128], before[:128]) || !bytes.Equal(after[6*64:], before[6*64:]) {
		t.Error("it wrote beside its area")
	}
}

// P1: what the chapter lists first comes first, also where there is no power.
func TestBeginFirstError(t *testing.T) {
	long := make([]byte, 65537)
	d := fresh(t, 2)
	if l, errno := Begin(d, -1, 2, 1, make([]byte, 60)); l != nil || errno != api.ErrArg || d.Calls() != 0 {
		t.Error("an area that begins ahead of the disk", l, errno, d.Calls())
	}
	d.Arm(0)
	examples := []struct {
		from, blocks, gen int
		first             []byte
		e                 api.Errno
	}{
		{0, 0, 1, nil, api.ErrArg}, {0, 3, 1, long, api.ErrArg}, {-1, 1, 1, long, api.ErrArg}, {-1, 2, 0, long, api.ErrArg}, {0, 2, 0, nil, api.ErrArg},
		{0, 2, maxGen + 1, long, api.ErrArg}, {0, 2, 1, long, api.ErrFull}, {0, 2, 1, make([]byte, 107), api.ErrFull},
		{1, 1, 1, make([]byte, 43), api.ErrFull}, {0, 2, 1, make([]byte, 106), api.ErrDown}, {1, 1, maxGen, nil, api.ErrDown},
	}
	for _, e := range examples {
		if l, errno := Begin(d, e.from, e.blocks, e.gen, e.first); l != nil || errno != e.e {
			t.Errorf("%d, %d, %d, %d bytes: %v, %d, not %d", e.from, e.blocks, e.gen, len(e.first), l, errno, e.e)
		}
	}
	if d.Calls() != 0 || !bytes.Equal(d.Image(), make([]byte, 128)) {
		t.Error("something was written")
	}
}

// P7.2

func TestOpenOfAreas(t *testing.T) {
	for _, a := range someAreas {
		d := fresh(t, 4)
		if !a.valid {
			findsNone(t, "no area", d, a.from, a.blocks, api.ErrArg)
			d.Arm(0)
			findsNone(t, "no area and no power", d, a.from, a.blocks, api.ErrArg)
			continue
		}
		findsNone(t, "zero bytes", d, a.from, a.blocks, api.ErrNone)
		begins(t, d, a.from, a.blocks, 5, []byte("ab"))
		finds(t, "begun", d, a.from, a.blocks, 5, []byte("ab"))
		d.Arm(0)
		findsNone(t, "no power", d, a.from, a.blocks, api.ErrDown)
	}
	d := fresh(t, 4)
	d.Arm(0)
	findsNone(t, "neither power nor a log", d, 0, 4, api.ErrDown)
}

// Open reads, and writes nothing.
func TestOpenOnlyReads(t *testing.T) {
	d := fresh(t, 4)
	l := begins(t, d, 1, 2, 5, []byte("ab"))
	appends(t, l, []byte("c"))
	calls, image := d.Calls(), d.Image()
	finds(t, "once", d, 1, 2, 5, []byte("ab"), []byte("c"))
	finds(t, "twice", d, 1, 2, 5, []byte("ab"), []byte("c"))
	findsNone(t, "none", d, 0, 1, api.ErrNone)
	if d.Calls() != calls || !bytes.Equal(d.Image(), image) {
		t.Error("something was written")
	}
}

func TestOpenOfNoLog(t *testing.T) {
	spoilt := code(1, 0, "ab")
	spoilt[19] ^= 1
	wrong := map[string][]byte{
		"Gen 0":              code(0, 0, "ab"),
		"Gen 0, and more":    slices.Concat(code(0, 0, "ab"), code(0, 1, "c")),
		"Gen 0, then 1":      slices.Concat(code(0, 0, "ab"), code(1, 0, "c")),
		"Seq 1":              code(1, 1, "ab"),
		"Seq 1, then 0":      slices.Concat(code(1, 1, "ab"), code(1, 0, "c")),
		"a spoilt one":       spoilt,
		"a spoilt one first": slices.Concat(spoilt, code(1, 0, "c")),
		"a byte ahead":       append([]byte{0}, code(1, 0, "ab")...),
		"a block ahead":      append(make([]byte, 64), code(1, 0, "ab")...),
		"some bytes":         someBytes(256),
	}
	for what, b := range wrong {
		findsNone(t, what, of(t, 4, b), 0, 4, api.ErrNone)
	}
	long := code(1, 0, string(someBytes(100)))
	findsNone(t, "cut off by the end of the area", of(t, 4, long), 0, 1, api.ErrNone)
	finds(t, "with all its blocks", of(t, 4, long), 0, 2, 1, someBytes(100))
}

// The log ends where there is no frame of its generation with the next number.
func TestOpenOfItsEnd(t *testing.T) {
	ab, c := []byte("ab"), []byte("c")
	two := slices.Concat(code(9, 0, "ab"), code(9, 1, "c"))
	spoilt := code(9, 2, "d")
	spoilt[len(spoilt)-1] ^= 128
	behinds := map[string][]byte{
		"nothing":               nil,
		"the same number":       code(9, 1, "d"),
		"the first number":      code(9, 0, "d"),
		"a number left out":     code(9, 3, "d"),
		"an older generation":   code(8, 2, "d"),
		"a newer generation":    code(10, 2, "d"),
		"generation 0":          code(0, 2, "d"),
		"a spoilt one":          spoilt,
		"a zero byte":           append([]byte{0}, code(9, 2, "d")...),
		"a beginning of one":    code(9, 2, "d")[:22],
		"some bytes":            someBytes(60),
		"one left out, and two": slices.Concat(code(8, 2, "d"), code(9, 2, "d"), code(9, 3, "e")),
	}
	for what, b := range behinds {
		finds(t, what, of(t, 4, two, b), 0, 4, 9, ab, c)
	}
	finds(t, "one more", of(t, 4, two, code(9, 2, "")), 0, 4, 9, ab, c, nil)
	finds(t, "two more", of(t, 4, two, code(9, 2, "d"), code(9, 3, "e")), 0, 4, 9, ab, c, []byte("d"), []byte("e"))
	finds(t, "only one", of(t, 4, code(maxGen, 0, ""), code(maxGen, 0, "")), 0, 4, maxGen, nil)
}

// A frame that ends with the area is in the log, one that goes on behind it is not.
func TestOpenOfTheAreasEnd(t *testing.T) {
	first := string(record(t, 64, 1))
	full := slices.Concat(code(2, 0, first), code(2, 1, string(record(t, 64, 2))))
	d := of(t, 4, full, code(2, 2, "c"))
	l := finds(t, "an area that is full", d, 0, 2, 2, []byte(first), record(t, 64, 2))
	if l.Room() != 0 || l.Append(nil) != api.ErrFull {
		t.Error("it has room", l.Room())
	}
	finds(t, "a greater area", d, 0, 3, 2, []byte(first), record(t, 64, 2), []byte("c"))
	d = of(t, 4, code(2, 0, first), code(2, 1, string(record(t, 65, 2))))
	finds(t, "one that goes on", d, 0, 2, 2, []byte(first))
	finds(t, "one that goes on, with its blocks", d, 0, 3, 2, []byte(first), record(t, 65, 2))
}

// Each block of the area is read as it was written last, durable or not.
func TestOpenOfWhatIsNotDurable(t *testing.T) {
	d := fresh(t, 3)
	b := of(t, 2, code(1, 0, string(someBytes(70))), code(1, 1, "c")).Image()
	if d.Write(1, b[:64]) != api.OK || d.Write(2, b[64:]) != api.OK {
		t.Fatal("the disk does not write")
	}
	finds(t, "written", d, 1, 2, 1, someBytes(70), []byte("c"))
	d.Crash([]int{1, 0})
	findsNone(t, "half of it lost", d, 1, 2, api.ErrNone)
}

// P7.3

// Records of every length, whatever lies behind them in the area, are found again, until there is no room.
func TestAppendAndOpen(t *testing.T) {
	r := rand.New(rand.NewSource(7))
	for round := range 60 {
		gen, blocks := 1+round, 1+r.Intn(30)
		d := of(t, 40, someBytes(40*64-round))
		from := r.Intn(40 - blocks + 1)
		before := d.Image()
		l := begins(t, d, from, blocks, gen, nil)
		records := [][]byte{nil}
		for {
			b := someBytes(r.Intn(1 + r.Intn(200)))
			if frame.Size(len(b)) > roomOf(blocks, records) {
				break
			}
			appends(t, l, b)
			records = append(records, b)
			tells(t, "appended", l, gen, len(records), roomOf(blocks, records))
			if r.Intn(4) == 0 {
				l = finds(t, "opened", d, from, blocks, gen, records...)
			}
		}
		finds(t, "full", d, from, blocks, gen, records...)
		after := d.Image()
		if !bytes.Equal(after[:from*64], before[:from*64]) || !bytes.Equal(after[(from+blocks)*64:], before[(from+blocks)*64:]) {
			t.Error("it wrote beside its area")
		}
	}
}

// Without room nothing is written, and what fits does so still.
func TestAppendWithoutRoom(t *testing.T) {
	d := fresh(t, 3)
	l := begins(t, d, 0, 2, 1, []byte("ab"))
	calls, image := d.Calls(), d.Image()
	for _, n := range []int{83, 84, 100, 1000, 65536, 65537, 1 << 20} {
		if errno := l.Append(make([]byte, n)); errno != api.ErrFull {
			t.Errorf("%d bytes: %d", n, errno)
		}
	}
	tells(t, "nothing appended", l, 1, 1, 104)
	if d.Calls() != calls || !bytes.Equal(d.Image(), image) {
		t.Error("something was written")
	}
	appends(t, l, make([]byte, 82))
	tells(t, "full", l, 1, 2, 0)
	for _, n := range []int{0, 1, 65537} {
		if errno := l.Append(make([]byte, n)); errno != api.ErrFull {
			t.Errorf("%d bytes more: %d", n, errno)
		}
	}
	finds(t, "full", d, 0, 2, 1, []byte("ab"), make([]byte, 82))
	for room := range 22 {
		d := fresh(t, 1)
		l := begins(t, d, 0, 1, 1, record(t, 64-room, 1))
		if errno := l.Append(nil); errno != api.ErrFull || l.Room() != room {
			t.Errorf("room %d: %d, %d", room, l.Room(), errno)
		}
	}
	l = begins(t, fresh(t, 1), 0, 1, 1, record(t, 42, 1))
	appends(t, l, nil)
	tells(t, "full to its last byte", l, 1, 2, 0)
}

// The greatest record, and one that is greater, where there is room for both.
func TestAppendOfTheGreatest(t *testing.T) {
	d := fresh(t, 4096)
	l := begins(t, d, 0, 4096, maxGen, make([]byte, 65536))
	if errno := l.Append(make([]byte, 65537)); errno != api.ErrFull {
		t.Error(errno)
	}
	if _, errno := Begin(d, 0, 4096, maxGen, make([]byte, 65537)); errno != api.ErrFull {
		t.Error(errno)
	}
	appends(t, l, someBytes(65536))
	finds(t, "two of them", d, 0, 4096, maxGen, make([]byte, 65536), someBytes(65536))
}

// A log that has returned ErrDown goes on to do so, also when the power is on again; one that is opened then does not.
func TestAppendAfterDown(t *testing.T) {
	d := fresh(t, 4)
	l := begins(t, d, 0, 2, 1, []byte("ab"))
	other := begins(t, d, 2, 2, 1, []byte("x"))
	d.Arm(0)
	if errno := l.Append([]byte("c")); errno != api.ErrDown {
		t.Fatal(errno)
	}
	tells(t, "down", l, 1, 1, 104)
	d.Crash(nil)
	calls := d.Calls()
	for _, b := range [][]byte{[]byte("c"), nil, make([]byte, 65537), make([]byte, 1000)} {
		if errno := l.Append(b); errno != api.ErrDown {
			t.Errorf("%d bytes: %d", len(b), errno)
		}
	}
	tells(t, "down still", l, 1, 1, 104)
	if d.Calls() != calls {
		t.Error("something was written")
	}
	appends(t, other, []byte("y"))
	again := finds(t, "opened again", d, 0, 2, 1, []byte("ab"))
	appends(t, again, []byte("d"))
	finds(t, "gone on", d, 0, 2, 1, []byte("ab"), []byte("d"))
}

// A log that has not returned ErrDown, because it was not asked or was full, goes on when the power is on again.
func TestAppendAfterAFailureBetween(t *testing.T) {
	d := fresh(t, 2)
	l := begins(t, d, 0, 2, 1, []byte("ab"))
	d.Arm(0)
	if errno := l.Append(make([]byte, 83)); errno != api.ErrFull {
		t.Error(errno)
	}
	if errno := l.Append(make([]byte, 65537)); errno != api.ErrFull {
		t.Error(errno)
	}
	d.Crash(nil)
	appends(t, l, []byte("c"))
	finds(t, "gone on", d, 0, 2, 1, []byte("ab"), []byte("c"))
}

// Logs beside one another, in one disk or at one place of two, do not touch each other.
func TestLogsAreIndependent(t *testing.T) {
	d := fresh(t, 6)
	a := begins(t, d, 0, 3, 1, record(t, 64, 1))
	b := begins(t, d, 3, 3, 1, record(t, 64, 2))
	appends(t, a, record(t, 128, 3))
	appends(t, b, record(t, 30, 4))
	elsewhere := begins(t, fresh(t, 6), 0, 3, 9, nil)
	tells(t, "elsewhere", elsewhere, 9, 1, 170)
	if a.Append(nil) != api.ErrFull {
		t.Error("there was room")
	}
	appends(t, b, record(t, 98, 5))
	finds(t, "the first", d, 0, 3, 1, record(t, 64, 1), record(t, 128, 3))
	finds(t, "the second", d, 3, 3, 1, record(t, 64, 2), record(t, 30, 4), record(t, 98, 5))
}

// P7.4 and R1: a log that neither Begin nor Open made has no room.
func TestNoLog(t *testing.T) {
	var none Log
	for _, l := range []*Log{nil, &none} {
		tells(t, "none", l, 0, 0, 0)
		for _, b := range [][]byte{nil, []byte("a"), make([]byte, 65537)} {
			if errno := l.Append(b); errno != api.ErrFull {
				t.Errorf("%d bytes: %d", len(b), errno)
			}
		}
		tells(t, "none still", l, 0, 0, 0)
	}
	if l, errno := Begin(nil, 0, 1, 1, nil); l != nil || errno != api.ErrArg {
		t.Error(l, errno)
	}
	findsNone(t, "no disk", nil, 0, 1, api.ErrArg)
}

// R3: what is handed in is neither changed nor kept, and records belong to the caller.
func TestRecordsShareNothing(t *testing.T) {
	d := fresh(t, 4)
	room := someBytes(200)
	before := bytes.Clone(room)
	l := begins(t, d, 0, 4, 1, room[:50])
	appends(t, l, room[50:120])
	if !bytes.Equal(room, before) {
		t.Fatal("the arguments were changed")
	}
	clear(room)
	appends(t, l, []byte("c"))
	first, second := before[:50], before[50:120]
	finds(t, "what was handed in is changed", d, 0, 4, 1, first, second, []byte("c"))
	_, a, _ := Open(d, 0, 4)
	_, b, _ := Open(d, 0, 4)
	image := d.Image()
	for i := range a {
		clear(a[i][:cap(a[i])])
		_ = append(a[i], "xyz"...)
	}
	if !sameRecords(b, [][]byte{first, second, []byte("c")}) || !bytes.Equal(d.Image(), image) {
		t.Error("another answer or the disk follows the records")
	}
	begins(t, d, 0, 4, 2, []byte("new"))
	if !sameRecords(b, [][]byte{first, second, []byte("c")}) {
		t.Error("the records follow the disk")
	}
}

// The records of one answer share nothing with each other.
func TestRecordsOfOneAnswerShareNothing(t *testing.T) {
	d := of(t, 4, code(1, 0, "first"), code(1, 1, "second"), code(1, 2, "third"))
	_, found, _ := Open(d, 0, 4)
	_ = append(found[0], "more than there was room for"...)
	clear(found[1][:cap(found[1])])
	if string(found[0]) != "first" || string(found[2]) != "third" {
		t.Errorf("%q", found)
	}
}
