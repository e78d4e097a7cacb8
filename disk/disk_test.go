package disk

import (
	"bytes"
	"math"
	"math/rand"
	"slices"
	"testing"

	"concierge/api"
)

// The calls as the chapter lists them: another signature does not compile.
var (
	_ func(blocks int) (*Disk, api.Errno)      = New
	_ func(image []byte) (*Disk, api.Errno)    = Of
	_ func(*Disk) int                          = (*Disk).Blocks
	_ func(d *Disk, i int) ([]byte, api.Errno) = (*Disk).Read
	_ func(d *Disk, i int, b []byte) api.Errno = (*Disk).Write
	_ func(*Disk) api.Errno                    = (*Disk).Sync
	_ func(d *Disk, n int)                     = (*Disk).Arm
	_ func(*Disk) bool                         = (*Disk).On
	_ func(d *Disk, picks []int)               = (*Disk).Crash
	_ func(*Disk) int                          = (*Disk).Calls
	_ func(*Disk) []byte                       = (*Disk).Image
	_ [api.BlockSize]byte                      = [64]byte{}
	_ [api.MaxBlocks]byte                      = [4096]byte{}
)

// full is a block that holds c only.
func full(c byte) []byte {
	return bytes.Repeat([]byte{c}, 64)
}

// someBytes returns n bytes, the same in each run.
func someBytes(n int) []byte {
	b := make([]byte, n)
	rand.New(rand.NewSource(int64(n) + 1)).Read(b)
	return b
}

// fresh returns a disk of that many blocks.
func fresh(t *testing.T, blocks int) *Disk {
	t.Helper()
	d, errno := New(blocks)
	if errno != api.OK || d == nil {
		t.Fatal(blocks, errno)
	}
	return d
}

// writes writes a block that holds c only, and fails unless that is performed.
func writes(t *testing.T, d *Disk, i int, c byte) {
	t.Helper()
	if errno := d.Write(i, full(c)); errno != api.OK {
		t.Fatalf("Write of block %d: %d", i, errno)
	}
}

// syncs makes the cache durable, and fails unless that is performed.
func syncs(t *testing.T, d *Disk) {
	t.Helper()
	if errno := d.Sync(); errno != api.OK {
		t.Fatalf("Sync: %d", errno)
	}
}

// reads fails unless the blocks are read as cs tells, a byte a block.
func reads(t *testing.T, what string, d *Disk, cs ...byte) {
	t.Helper()
	for i, c := range cs {
		if b, errno := d.Read(i); errno != api.OK || !bytes.Equal(b, full(c)) {
			t.Errorf("%s: block %d is read as %x, %d, not as %d", what, i, b, errno, c)
		}
	}
}

// holds fails unless the durable contents are as cs tells, a byte a block.
func holds(t *testing.T, what string, d *Disk, cs ...byte) {
	t.Helper()
	var want []byte
	for _, c := range cs {
		want = append(want, full(c)...)
	}
	if image := d.Image(); !bytes.Equal(image, want) {
		t.Errorf("%s: the durable contents are %x, not %d", what, image, cs)
	}
}

// isOff fails unless the disk answers as one whose power is off, and calls were performed.
func isOff(t *testing.T, what string, d *Disk, calls int) {
	t.Helper()
	b, r := d.Read(0)
	w, s := d.Write(0, full(99)), d.Sync()
	if d.On() || r != api.ErrDown || len(b) != 0 || w != api.ErrDown || s != api.ErrDown {
		t.Errorf("%s: on %v, %d bytes, %d, %d, %d", what, d.On(), len(b), r, w, s)
	}
	if d.Calls() != calls {
		t.Errorf("%s: %d calls, not %d", what, d.Calls(), calls)
	}
}

// P5.1

func TestNew(t *testing.T) {
	for _, n := range []int{1, 2, 3, 8, 400, 4095, 4096} {
		d := fresh(t, n)
		if d.Blocks() != n || !d.On() || d.Calls() != 0 || !bytes.Equal(d.Image(), make([]byte, 64*n)) {
			t.Errorf("%d: %d blocks, on %v, %d calls, an image of %d bytes", n, d.Blocks(), d.On(), d.Calls(), len(d.Image()))
		}
		reads(t, "new", d, make([]byte, n)...)
		d.Crash([]int{1})
		if !bytes.Equal(d.Image(), make([]byte, 64*n)) {
			t.Error(n, "there was something in the cache")
		}
	}
}

func TestNewOfWrongNumbers(t *testing.T) {
	for _, n := range []int{0, -1, -64, -4096, 4097, 8192, math.MinInt, math.MaxInt, math.MaxInt / 64, 1<<32 + 1} {
		if d, errno := New(n); d != nil || errno != api.ErrArg {
			t.Errorf("%d: %v, %d", n, d, errno)
		}
	}
}

func TestOf(t *testing.T) {
	for _, n := range []int{1, 2, 3, 8, 4095, 4096} {
		image := someBytes(64 * n)
		d, errno := Of(image)
		if errno != api.OK || d.Blocks() != n || !d.On() || d.Calls() != 0 || !bytes.Equal(d.Image(), image) {
			t.Fatal(n, errno)
		}
		for i := range n {
			if b, errno := d.Read(i); errno != api.OK || !bytes.Equal(b, image[64*i:64*i+64]) {
				t.Errorf("block %d of %d: %x, %d", i, n, b, errno)
			}
		}
		d.Crash([]int{1})
		if !bytes.Equal(d.Image(), image) {
			t.Error(n, "it was lost, or there was something in the cache")
		}
	}
}

func TestOfWrongImages(t *testing.T) {
	for _, n := range []int{0, 1, 63, 65, 127, 129, 64*4096 - 1, 64*4096 + 1, 64 * 4097, 64 * 8192} {
		if d, errno := Of(make([]byte, n)); d != nil || errno != api.ErrArg {
			t.Errorf("%d bytes: %v, %d", n, d, errno)
		}
	}
	if d, errno := Of(nil); d != nil || errno != api.ErrArg {
		t.Errorf("nil: %v, %d", d, errno)
	}
}

// An image of a disk makes the same disk, but for what was not durable.
func TestOfAnImage(t *testing.T) {
	d := fresh(t, 3)
	writes(t, d, 0, 1)
	writes(t, d, 2, 3)
	syncs(t, d)
	writes(t, d, 1, 2)
	other, errno := Of(d.Image())
	if errno != api.OK || other.Calls() != 0 {
		t.Fatal(errno)
	}
	reads(t, "of an image", other, 1, 0, 3)
	writes(t, other, 0, 9)
	syncs(t, other)
	holds(t, "the first, after the other was written", d, 1, 0, 3)
	reads(t, "the same", d, 1, 2, 3)
}

// R3: neither what was handed in nor what was answered is shared with the disk.
func TestImagesShareNothing(t *testing.T) {
	room := someBytes(64*3 + 10)
	before := bytes.Clone(room)
	d, errno := Of(room[:64*3])
	if errno != api.OK || !bytes.Equal(room, before) {
		t.Fatal(errno, "the argument was changed")
	}
	clear(room)
	first := d.Image()
	if !bytes.Equal(first, before[:64*3]) {
		t.Error("the disk follows what it was made of")
	}
	clear(first[:cap(first)])
	if !bytes.Equal(d.Image(), before[:64*3]) {
		t.Error("the disk follows an image that it answered")
	}
	again := d.Image()
	if errno := d.Write(0, full(7)); errno != api.OK || d.Sync() != api.OK {
		t.Fatal(errno)
	}
	if !bytes.Equal(again, before[:64*3]) {
		t.Error("an image follows the disk")
	}
}

// P5.2

// This is the chapter's example.
func TestExample(t *testing.T) {
	d := fresh(t, 4)
	b := someBytes(64)
	if errno := d.Write(0, b); errno != api.OK {
		t.Fatal(errno)
	}
	if got, errno := d.Read(0); errno != api.OK || !bytes.Equal(got, b) {
		t.Errorf("%x, %d", got, errno)
	}
	if !bytes.Equal(d.Image(), make([]byte, 256)) {
		t.Errorf("%x", d.Image())
	}
	d.Crash([]int{1})
	if !bytes.Equal(d.Image(), append(b, make([]byte, 192)...)) {
		t.Errorf("%x", d.Image())
	}
}

func TestReadIsWhatWasWrittenLast(t *testing.T) {
	d := fresh(t, 3)
	writes(t, d, 1, 1)
	reads(t, "written once", d, 0, 1, 0)
	writes(t, d, 1, 2)
	writes(t, d, 2, 3)
	reads(t, "written twice", d, 0, 2, 3)
	holds(t, "not synced", d, 0, 0, 0)
	syncs(t, d)
	reads(t, "synced", d, 0, 2, 3)
	holds(t, "synced", d, 0, 2, 3)
	writes(t, d, 1, 4)
	reads(t, "written over what is durable", d, 0, 4, 3)
	holds(t, "not synced again", d, 0, 2, 3)
	writes(t, d, 1, 0)
	reads(t, "written as zero bytes", d, 0, 0, 3)
	syncs(t, d)
	holds(t, "synced again", d, 0, 0, 3)
}

// Sync takes the cache in order, and empties it: a later Sync or Crash finds nothing of it.
func TestSync(t *testing.T) {
	d := fresh(t, 2)
	syncs(t, d)
	holds(t, "nothing to sync", d, 0, 0)
	for c := byte(1); c <= 5; c++ {
		writes(t, d, 0, c)
		writes(t, d, 1, 10-c)
	}
	syncs(t, d)
	holds(t, "the last of each", d, 5, 5)
	writes(t, d, 0, 6)
	d.Crash(nil)
	holds(t, "after a loss", d, 5, 5)
	reads(t, "after a loss", d, 5, 5)
	syncs(t, d)
	holds(t, "what was lost is not synced", d, 5, 5)
	writes(t, d, 1, 7)
	syncs(t, d)
	d.Crash([]int{1})
	syncs(t, d)
	holds(t, "what was synced is no more in the cache", d, 5, 7)
}

func TestReadOfNoBlock(t *testing.T) {
	for _, n := range []int{1, 3, 4096} {
		d := fresh(t, n)
		for _, i := range []int{-1, -64, n, n + 1, 4096, 4097, math.MinInt, math.MaxInt} {
			if b, errno := d.Read(i); errno != api.ErrArg || len(b) != 0 {
				t.Errorf("block %d of %d: %x, %d", i, n, b, errno)
			}
			if errno := d.Write(i, full(1)); errno != api.ErrArg {
				t.Errorf("block %d of %d is written: %d", i, n, errno)
			}
		}
		syncs(t, d)
		if d.Calls() != 1 || !bytes.Equal(d.Image(), make([]byte, 64*n)) {
			t.Errorf("%d: %d calls", n, d.Calls())
		}
		for _, i := range []int{0, n - 1} {
			writes(t, d, i, 5)
			if b, errno := d.Read(i); errno != api.OK || !bytes.Equal(b, full(5)) {
				t.Errorf("block %d of %d: %x, %d", i, n, b, errno)
			}
		}
	}
}

func TestWriteOfNoBlock(t *testing.T) {
	d := fresh(t, 2)
	writes(t, d, 0, 1)
	for _, n := range []int{0, 1, 63, 65, 128, 4096} {
		if errno := d.Write(0, make([]byte, n)); errno != api.ErrArg {
			t.Errorf("%d bytes: %d", n, errno)
		}
	}
	if errno := d.Write(0, nil); errno != api.ErrArg {
		t.Errorf("nil: %d", errno)
	}
	reads(t, "after wrong Writes", d, 1, 0)
	syncs(t, d)
	holds(t, "after wrong Writes", d, 1, 0)
	if d.Calls() != 2 {
		t.Error(d.Calls())
	}
}

// P1: with the power off, what may not be asked is ErrArg, and all else ErrDown.
func TestFirstError(t *testing.T) {
	d := fresh(t, 2)
	writes(t, d, 0, 1)
	syncs(t, d)
	writes(t, d, 1, 2)
	d.Arm(0)
	for _, i := range []int{-1, 2, math.MaxInt, math.MinInt} {
		if b, errno := d.Read(i); errno != api.ErrArg || len(b) != 0 {
			t.Errorf("Read(%d): %x, %d", i, b, errno)
		}
		if errno := d.Write(i, full(1)); errno != api.ErrArg {
			t.Errorf("Write(%d): %d", i, errno)
		}
	}
	for _, n := range []int{0, 63, 65} {
		if errno := d.Write(0, make([]byte, n)); errno != api.ErrArg {
			t.Errorf("Write of %d bytes: %d", n, errno)
		}
	}
	for i := range 2 {
		if b, errno := d.Read(i); errno != api.ErrDown || len(b) != 0 {
			t.Errorf("Read(%d): %x, %d", i, b, errno)
		}
	}
	isOff(t, "off", d, 3)
	holds(t, "off", d, 1, 0)
	if d.Blocks() != 2 {
		t.Error(d.Blocks())
	}
}

// R3: what is written is neither changed nor kept, and what is read belongs to the caller.
func TestBlocksShareNothing(t *testing.T) {
	d := fresh(t, 2)
	room := someBytes(100)
	before := bytes.Clone(room)
	if errno := d.Write(0, room[:64]); errno != api.OK || !bytes.Equal(room, before) {
		t.Fatal(errno, "the argument was changed")
	}
	clear(room)
	for _, synced := range []bool{false, true} {
		if synced {
			syncs(t, d)
		}
		a, _ := d.Read(0)
		b, _ := d.Read(0)
		if !bytes.Equal(a, before[:64]) {
			t.Errorf("the disk follows what was written: %x", a)
		}
		clear(a[:cap(a)])
		if c, _ := d.Read(0); !bytes.Equal(b, before[:64]) || !bytes.Equal(c, before[:64]) {
			t.Error("the disk, or another answer, follows an answer")
		}
	}
	a, _ := d.Read(0)
	writes(t, d, 0, 9)
	syncs(t, d)
	if !bytes.Equal(a, before[:64]) {
		t.Error("an answer follows the disk")
	}
	image := d.Image()
	a, _ = d.Read(0)
	_ = append(a, full(8)...)
	if !bytes.Equal(d.Image(), image) {
		t.Error("what is appended to an answer is written")
	}
}

func TestDisksAreIndependent(t *testing.T) {
	a, b := fresh(t, 2), fresh(t, 2)
	writes(t, a, 0, 1)
	syncs(t, a)
	writes(t, a, 1, 2)
	a.Arm(0)
	reads(t, "beside", b, 0, 0)
	holds(t, "beside", b, 0, 0)
	if !b.On() || b.Calls() != 0 || b.Sync() != api.OK {
		t.Error("a disk follows another one")
	}
}

// P5.3

// The power fails behind n Writes and Syncs, each of which takes effect.
func TestArm(t *testing.T) {
	for n := 1; n <= 9; n++ {
		d := fresh(t, 10)
		writes(t, d, 9, 7)
		syncs(t, d)
		d.Arm(n)
		for k := range n {
			if !d.On() {
				t.Fatalf("Arm(%d): off behind %d", n, k)
			}
			writes(t, d, k, byte(k+1))
		}
		isOff(t, "armed", d, n+2)
		want := make([]byte, 10)
		want[9] = 7
		holds(t, "off", d, want...)
		d.Crash([]int{1})
		for k := range n {
			want[k] = byte(k + 1)
		}
		holds(t, "the last Write took effect too", d, want...)
		reads(t, "on again", d, want...)
	}
}

func TestArmOfSyncs(t *testing.T) {
	d := fresh(t, 2)
	writes(t, d, 0, 1)
	d.Arm(1)
	syncs(t, d)
	isOff(t, "behind the Sync", d, 2)
	holds(t, "the Sync took effect", d, 1, 0)
	d.Crash(nil)
	holds(t, "the Sync took effect, also after a loss", d, 1, 0)
	d.Arm(3)
	syncs(t, d)
	writes(t, d, 1, 2)
	if !d.On() {
		t.Error("off behind two of three")
	}
	syncs(t, d)
	isOff(t, "behind three", d, 5)
	holds(t, "behind three", d, 1, 2)
}

func TestArmAtOnce(t *testing.T) {
	for _, n := range []int{0, -1, -2, math.MinInt} {
		d := fresh(t, 2)
		writes(t, d, 0, 1)
		d.Arm(n)
		isOff(t, "at once", d, 1)
		holds(t, "at once", d, 0, 0)
		d.Crash([]int{1})
		holds(t, "the cache was there still", d, 1, 0)
	}
}

// Reads and what is not performed do not bring the failure nearer.
func TestArmCountsWhatIsPerformed(t *testing.T) {
	d := fresh(t, 2)
	d.Arm(2)
	for range 5 {
		d.Read(0)
		d.Read(2)
		d.Write(2, full(1))
		d.Write(0, nil)
		d.Image()
		d.Blocks()
		d.Calls()
	}
	if !d.On() || d.Calls() != 0 {
		t.Fatal("what is not performed was counted")
	}
	writes(t, d, 0, 1)
	d.Write(-1, full(1))
	d.Read(0)
	if !d.On() {
		t.Fatal("off behind one of two")
	}
	writes(t, d, 0, 2)
	isOff(t, "behind two", d, 2)
}

func TestLaterArmReplaces(t *testing.T) {
	d := fresh(t, 2)
	d.Arm(1)
	d.Arm(3)
	writes(t, d, 0, 1)
	writes(t, d, 0, 2)
	if !d.On() {
		t.Error("the earlier Arm is in effect")
	}
	d.Arm(5)
	d.Arm(1)
	writes(t, d, 0, 3)
	isOff(t, "the later Arm is not in effect", d, 3)
	d.Crash([]int{1})
	d.Arm(1)
	d.Arm(math.MaxInt)
	for range 100 {
		writes(t, d, 1, 4)
	}
	if !d.On() {
		t.Error("off ahead of the greatest number")
	}
	d.Arm(0)
	isOff(t, "at once, in place of a later failure", d, 103)
}

// If the power is off, Arm does nothing, at once or later.
func TestArmOfADiskThatIsOff(t *testing.T) {
	for _, n := range []int{math.MinInt, -1, 0, 1, 2, math.MaxInt} {
		d := fresh(t, 2)
		writes(t, d, 0, 1)
		d.Arm(0)
		d.Arm(n)
		isOff(t, "stays off", d, 1)
		d.Crash([]int{1})
		holds(t, "the cache was left as it was", d, 1, 0)
		for range 5 {
			writes(t, d, 1, 2)
			syncs(t, d)
		}
		if !d.On() {
			t.Errorf("Arm(%d) of a disk that is off fails it later", n)
		}
	}
}

func TestCalls(t *testing.T) {
	d := fresh(t, 2)
	want := 0
	check := func(what string, more int) {
		t.Helper()
		want += more
		if d.Calls() != want {
			t.Errorf("%s: %d calls, not %d", what, d.Calls(), want)
		}
	}
	check("new", 0)
	writes(t, d, 0, 1)
	check("Write", 1)
	writes(t, d, 0, 1)
	check("the same Write", 1)
	syncs(t, d)
	check("Sync", 1)
	syncs(t, d)
	check("Sync of nothing", 1)
	d.Write(2, full(1))
	d.Write(0, nil)
	check("wrong Writes", 0)
	d.Read(0)
	d.Image()
	d.Arm(2)
	check("no Writes and Syncs", 0)
	writes(t, d, 1, 1)
	syncs(t, d)
	check("the last ones", 2)
	d.Write(0, full(1))
	d.Sync()
	check("off", 0)
	d.Crash([]int{1})
	check("Crash", 0)
	syncs(t, d)
	check("on again", 1)
	other, errno := Of(d.Image())
	if errno != api.OK || other.Calls() != 0 {
		t.Error("the calls of a disk of an image")
	}
}

// P5.4

func TestCrashPicks(t *testing.T) {
	examples := []struct {
		picks []int
		kept  []byte // of five writes of the blocks 0 to 4
	}{
		{nil, []byte{0, 0, 0, 0, 0}},
		{[]int{}, []byte{0, 0, 0, 0, 0}},
		{[]int{0}, []byte{0, 0, 0, 0, 0}},
		{[]int{2}, []byte{0, 0, 0, 0, 0}},
		{[]int{1}, []byte{1, 2, 3, 4, 5}},
		{[]int{3}, []byte{1, 2, 3, 4, 5}},
		{[]int{-1}, []byte{1, 2, 3, 4, 5}},
		{[]int{-3}, []byte{1, 2, 3, 4, 5}},
		{[]int{-2}, []byte{0, 0, 0, 0, 0}},
		{[]int{math.MaxInt}, []byte{1, 2, 3, 4, 5}},
		{[]int{math.MinInt}, []byte{0, 0, 0, 0, 0}},
		{[]int{math.MinInt + 1}, []byte{1, 2, 3, 4, 5}},
		{[]int{1, 0}, []byte{1, 0, 3, 0, 5}},
		{[]int{0, 1}, []byte{0, 2, 0, 4, 0}},
		{[]int{1, 0, 0}, []byte{1, 0, 0, 4, 0}},
		{[]int{0, 0, 1}, []byte{0, 0, 3, 0, 0}},
		{[]int{4, 5, 6, 7}, []byte{0, 2, 0, 4, 0}},
		{[]int{1, 0, 0, 1}, []byte{1, 0, 0, 4, 5}},
		{[]int{0, 0, 0, 0, 1}, []byte{0, 0, 0, 0, 5}},
		{[]int{1, 0, 0, 0, 0, 1, 1}, []byte{1, 0, 0, 0, 0}},
	}
	for _, e := range examples {
		for _, off := range []bool{false, true} {
			d := fresh(t, 5)
			for k := range 5 {
				writes(t, d, k, byte(k+1))
			}
			if off {
				d.Arm(0)
			}
			before := slices.Clone(e.picks)
			d.Crash(e.picks)
			if !slices.Equal(e.picks, before) {
				t.Errorf("%d was changed", before)
			}
			if !d.On() || d.Calls() != 5 {
				t.Errorf("%d: on %v, %d calls", e.picks, d.On(), d.Calls())
			}
			holds(t, "picked", d, e.kept...)
			reads(t, "picked", d, e.kept...)
			syncs(t, d)
			d.Crash([]int{1})
			holds(t, "what was not picked is lost", d, e.kept...)
		}
	}
}

// What is picked are writes, not blocks: of a block that was written several times, the last of the picked writes is kept.
func TestCrashOfOneBlock(t *testing.T) {
	examples := []struct {
		picks []int
		kept  byte
	}{
		{[]int{0, 0, 0}, 9},
		{[]int{1, 0, 0}, 1},
		{[]int{0, 1, 0}, 2},
		{[]int{0, 0, 1}, 3},
		{[]int{1, 1, 0}, 2},
		{[]int{1, 0, 1}, 3},
		{[]int{1, 1, 1}, 3},
	}
	for _, e := range examples {
		d := fresh(t, 1)
		writes(t, d, 0, 9)
		syncs(t, d)
		for c := byte(1); c <= 3; c++ {
			writes(t, d, 0, c)
		}
		d.Crash(e.picks)
		holds(t, "written three times", d, e.kept)
		reads(t, "written three times", d, e.kept)
	}
}

// The indices are those of the cache: what was synced, or lost, has none.
func TestCrashCountsTheCache(t *testing.T) {
	d := fresh(t, 4)
	writes(t, d, 0, 1)
	syncs(t, d)
	writes(t, d, 1, 2)
	writes(t, d, 2, 3)
	d.Crash([]int{1, 0})
	holds(t, "behind a Sync", d, 1, 2, 0, 0)
	writes(t, d, 3, 4)
	writes(t, d, 0, 5)
	d.Crash([]int{0, 1})
	holds(t, "behind a Crash", d, 5, 2, 0, 0)
}

func TestCrashEndsArm(t *testing.T) {
	d := fresh(t, 2)
	d.Arm(2)
	writes(t, d, 0, 1)
	d.Crash([]int{1})
	for range 5 {
		writes(t, d, 1, 2)
		syncs(t, d)
	}
	if !d.On() {
		t.Error("an Arm is in effect after a Crash of a disk that was on")
	}
	d.Arm(1)
	syncs(t, d)
	d.Crash(nil)
	d.Crash(nil)
	for range 5 {
		syncs(t, d)
	}
	if !d.On() {
		t.Error("an Arm is in effect after a Crash of a disk that was off")
	}
	holds(t, "on again", d, 1, 2)
}

// P5.5

// A block that is durable stays so through lost writes and failures, till it is overwritten and that is made durable.
func TestDurableContentsRemain(t *testing.T) {
	d := fresh(t, 2)
	writes(t, d, 0, 1)
	syncs(t, d)
	for _, spoil := range []func(){
		func() { d.Crash(nil) },
		func() { writes(t, d, 0, 2) },
		func() { writes(t, d, 0, 3); d.Crash([]int{0}) },
		func() { d.Arm(1); writes(t, d, 0, 4); isOff(t, "spoilt", d, d.Calls()); d.Crash(nil) },
		func() { d.Arm(1); syncs(t, d); d.Crash([]int{1}) },
		func() { writes(t, d, 1, 5); writes(t, d, 0, 6); d.Arm(0); d.Sync(); d.Crash([]int{1, 0}) },
		func() { d.Write(0, nil); d.Write(-1, full(7)); syncs(t, d) },
	} {
		spoil()
		if !bytes.Equal(d.Image()[:64], full(1)) {
			t.Fatalf("%x", d.Image())
		}
	}
	reads(t, "what was lost", d, 1, 5)
	writes(t, d, 0, 8)
	syncs(t, d)
	holds(t, "overwritten", d, 8, 5)
}

// model is a disk by the words of the chapter: durable blocks, and all writes since they were synced.
type model struct {
	blocks  [][]byte
	numbers []int
	written [][]byte
	on      bool
	fails   int // the number of calls at which the power fails; -1: none
	calls   int
}

func newModel(n int) *model {
	m := &model{on: true, fails: -1}
	for range n {
		m.blocks = append(m.blocks, make([]byte, 64))
	}
	return m
}

func (m *model) called() {
	m.calls++
	m.on = m.calls != m.fails
}

func (m *model) read(i int) ([]byte, api.Errno) {
	if i < 0 || i >= len(m.blocks) {
		return nil, api.ErrArg
	}
	if !m.on {
		return nil, api.ErrDown
	}
	b := m.blocks[i]
	for k, n := range m.numbers {
		if n == i {
			b = m.written[k]
		}
	}
	return b, api.OK
}

func (m *model) write(i int, b []byte) api.Errno {
	if i < 0 || i >= len(m.blocks) || len(b) != 64 {
		return api.ErrArg
	}
	if !m.on {
		return api.ErrDown
	}
	m.numbers = append(m.numbers, i)
	m.written = append(m.written, b)
	m.called()
	return api.OK
}

func (m *model) sync() api.Errno {
	if !m.on {
		return api.ErrDown
	}
	m.keep(func(int) bool { return true })
	m.called()
	return api.OK
}

func (m *model) keep(picked func(k int) bool) {
	for k, n := range m.numbers {
		if picked(k) {
			m.blocks[n] = m.written[k]
		}
	}
	m.numbers, m.written = nil, nil
}

func (m *model) arm(n int) {
	if m.on {
		m.fails = m.calls + max(n, 0)
		m.on = n >= 1
	}
}

func (m *model) crash(picks []int) {
	m.keep(func(k int) bool { return len(picks) > 0 && picks[k%len(picks)]&1 == 1 })
	m.on, m.fails = true, -1
}

// same fails unless the disk answers all that can be asked as the model does.
func same(t *testing.T, d *Disk, m *model) {
	t.Helper()
	if d.Blocks() != len(m.blocks) || d.On() != m.on || d.Calls() != m.calls {
		t.Fatalf("%d blocks, on %v, %d calls; not %d, %v, %d", d.Blocks(), d.On(), d.Calls(), len(m.blocks), m.on, m.calls)
	}
	if !bytes.Equal(d.Image(), bytes.Join(m.blocks, nil)) {
		t.Fatalf("the durable contents are %x", d.Image())
	}
	for i := -1; i <= len(m.blocks); i++ {
		b, errno := d.Read(i)
		want, wantErrno := m.read(i)
		if errno != wantErrno || !bytes.Equal(b, want) {
			t.Fatalf("block %d: %x, %d; not %x, %d", i, b, errno, want, wantErrno)
		}
	}
}

// play does what script tells, to a disk and to its model, and holds them against each other at each step.
func play(t *testing.T, script []byte) {
	t.Helper()
	n := 3
	d, m := fresh(t, n), newModel(n)
	next := func() int {
		if len(script) == 0 {
			return 0
		}
		c := script[0]
		script = script[1:]
		return int(c)
	}
	for step := 1; len(script) > 0; step++ {
		var errno, want api.Errno
		switch c := next(); {
		case c%16 < 9:
			i, b := next()%(n+2)-1, full(byte(step))
			if c%16 == 0 {
				b = b[:c/16]
			}
			errno, want = d.Write(i, b), m.write(i, b)
		case c%16 < 12:
			errno, want = d.Sync(), m.sync()
		case c%16 < 14:
			k := c/16 - 2
			d.Arm(k)
			m.arm(k)
		default:
			picks := make([]int, c/16%4)
			for k := range picks {
				picks[k] = next() - 128
			}
			d.Crash(picks)
			m.crash(picks)
		}
		if errno != want {
			t.Fatalf("step %d: %d, not %d", step, errno, want)
		}
		same(t, d, m)
	}
}

func TestByTheModel(t *testing.T) {
	r := rand.New(rand.NewSource(5))
	for range 500 {
		script := make([]byte, 200)
		r.Read(script)
		play(t, script)
	}
}

// Fuzz: any calls in any order.
func FuzzDisk(f *testing.F) {
	f.Add([]byte(nil))
	f.Add([]byte{1, 1, 10, 2, 2, 0x3c, 3, 3, 4, 1, 0x1f, 129})
	f.Add(someBytes(100))
	f.Fuzz(func(t *testing.T, script []byte) {
		play(t, script[:min(len(script), 1000)])
	})
}

// P1: what New and Of return beside an error can be asked too, and so can a disk that neither made.
func TestDisksThatAreNone(t *testing.T) {
	none, _ := New(0)
	other, _ := Of(nil)
	for _, d := range []*Disk{none, other, nil, {}} {
		for _, i := range []int{-1, 0, 1, math.MaxInt} {
			if b, errno := d.Read(i); errno != api.ErrArg || len(b) != 0 {
				t.Errorf("Read(%d): %x, %d", i, b, errno)
			}
			if errno := d.Write(i, full(1)); errno != api.ErrArg {
				t.Errorf("Write(%d): %d", i, errno)
			}
		}
		if d.Blocks() != 0 || len(d.Image()) != 0 || d.Calls() != 0 {
			t.Error("there is something")
		}
		d.Arm(1)
		d.Arm(0)
		if errno := d.Sync(); errno != api.ErrDown || d.On() || d.Calls() != 0 {
			t.Error("on", errno)
		}
		d.Crash([]int{1})
		d.Crash(nil)
	}
	if none.On() || none.Sync() != api.ErrDown {
		t.Error("a disk that there is none of is on")
	}
}

// A cache of more writes than there are blocks keeps all of them apart.
func TestGreatCache(t *testing.T) {
	d := fresh(t, 4096)
	for k := range 3 * 4096 {
		writes(t, d, k%4096, byte(k/4096+1))
	}
	d.Arm(0)
	d.Crash([]int{1, 1, 0})
	image := d.Image()
	for i := range 4096 {
		want := byte(0)
		for k := i; k < 3*4096; k += 4096 {
			if k%3 != 2 {
				want = byte(k/4096 + 1)
			}
		}
		if !bytes.Equal(image[64*i:64*i+64], full(want)) {
			t.Fatalf("block %d: %x, not %d", i, image[64*i:64*i+64], want)
		}
	}
}
