package log

import (
	"bytes"
	"math/rand"
	"slices"
	"testing"

	"concierge/api"
	"concierge/disk"
	"concierge/frame"
)

// call is one of the disk: a Write of a block, or a Sync, which has no bytes.
type call struct {
	block int
	bytes []byte
}

// callsFor are the disk's calls that write a frame at a position of an area, by the words of the chapter, where image is what the disk holds.
func callsFor(image []byte, from, blocks, position int, code []byte) []call {
	b := bytes.Clone(image[from*64 : (from+blocks)*64])
	end := position + copy(b[position:], code)
	last := (end - 1) / 64
	clear(b[end : last*64+64])
	if end%64 == 0 && last+1 < blocks {
		last++
		clear(b[last*64 : last*64+64])
	}
	first := position / 64
	write := func(i int) call {
		return call{block: from + i, bytes: b[i*64 : i*64+64]}
	}
	var calls []call
	for i := first + 1; i <= last; i++ {
		calls = append(calls, write(i))
	}
	if last > first {
		calls = append(calls, call{})
	}
	return append(calls, write(first), call{})
}

// afterCalls is what is durable of an image after the calls and a Crash with the picks.
func afterCalls(image []byte, calls []call, picks []int) []byte {
	image = bytes.Clone(image)
	var cache []call
	for _, c := range calls {
		if c.bytes != nil {
			cache = append(cache, c)
			continue
		}
		for _, w := range cache {
			copy(image[w.block*64:], w.bytes)
		}
		cache = nil
	}
	for k, w := range cache {
		if len(picks) > 0 && picks[k%len(picks)]%2 != 0 {
			copy(image[w.block*64:], w.bytes)
		}
	}
	return image
}

// somePicks are picks of none, of all, of each block by itself and of some together.
func somePicks() [][]int {
	picks := [][]int{nil, {0}, {1}, {-1}, {0, 1}, {1, 0}, {1, 1, 0}, {0, 1, 1}}
	for i := range 5 {
		one := make([]int, 5)
		one[i] = 1
		picks = append(picks, one)
	}
	return picks
}

// The sizes of frames that end ahead of a block's end, with it, and behind it.
var someSizes = []int{22, 23, 63, 64, 65, 86, 127, 128, 129, 151, 190, 192, 193, 256, 257}

// diskOf is one that holds the image.
func diskOf(t *testing.T, image []byte) *disk.Disk {
	t.Helper()
	d, errno := disk.Of(image)
	if errno != api.OK {
		t.Fatal(errno)
	}
	return d
}

// performs lets the power fail after each number of calls, with all picks, and fails unless what ready makes of the disk does just these calls. Then it tells check whether all were done, and the disk.
func performs(t *testing.T, image []byte, calls []call, ready func(d *disk.Disk) func() api.Errno, check func(whole bool, d *disk.Disk)) {
	t.Helper()
	for n := range len(calls) + 1 {
		want := api.ErrDown
		if n == len(calls) {
			want = api.OK
		}
		for _, picks := range somePicks() {
			d := diskOf(t, image)
			do := ready(d)
			d.Arm(n)
			if errno := do(); errno != want || d.Calls() != n || d.On() {
				t.Fatalf("power for %d of %d calls: %d, %d calls, on %v", n, len(calls), errno, d.Calls(), d.On())
			}
			d.Crash(picks)
			if !bytes.Equal(d.Image(), afterCalls(image, calls[:n], picks)) {
				t.Fatalf("power for %d of %d calls, picks %d: %x", n, len(calls), picks, d.Image())
			}
			check(n == len(calls), d)
		}
	}
	d := diskOf(t, image)
	if errno := ready(d)(); errno != api.OK || d.Calls() != len(calls) {
		t.Fatalf("with power: %d, %d calls, not %d", errno, d.Calls(), len(calls))
	}
}

// beginsWith is what Begin does, for performs.
func beginsWith(t *testing.T, from, blocks, gen int, first []byte) func(d *disk.Disk) func() api.Errno {
	return func(d *disk.Disk) func() api.Errno {
		return func() api.Errno {
			l, errno := Begin(d, from, blocks, gen, first)
			if (l != nil) != (errno == api.OK) {
				t.Errorf("%v with the error %d", l, errno)
			}
			return errno
		}
	}
}

// P7.1 and P7.5

// oldLogs are what may be in an area of five blocks ahead of a Begin.
func oldLogs(t *testing.T) map[string][][]byte {
	t.Helper()
	return map[string][][]byte{
		"nothing":           nil,
		"one record":        {[]byte("old")},
		"a long record":     {record(t, 300, 9)},
		"short records":     {[]byte("o"), []byte("l"), []byte("d"), nil, nil, nil, nil, nil, nil, nil},
		"a record a block":  {record(t, 64, 1), record(t, 64, 2), record(t, 64, 3), record(t, 64, 4), record(t, 64, 5)},
		"a full area":       {record(t, 190, 1), record(t, 130, 2)},
		"records of blocks": {record(t, 128, 1), record(t, 128, 2)},
	}
}

// imageOf is a disk of seven blocks of some bytes, the five from the second one on with the log, if there is one.
func imageOf(t *testing.T, gen int, records [][]byte) []byte {
	t.Helper()
	image := someBytes(7 * 64)
	clear(image[64 : 6*64])
	at := 64
	for i, b := range records {
		at += copy(image[at:], frame.Encode(api.Frame{Gen: gen, Seq: i, Data: b}))
	}
	if at > 6*64 {
		t.Fatal(at)
	}
	return image
}

// Wherever the power fails in Begin, there is nothing, or the new record alone, or a part of what was there.
func TestBeginAndPower(t *testing.T) {
	for what, old := range oldLogs(t) {
		image := imageOf(t, 3, old)
		for _, size := range someSizes {
			first := record(t, size, 77)
			calls := callsFor(image, 1, 5, 0, frame.Encode(api.Frame{Gen: 4, Data: first}))
			performs(t, image, calls, beginsWith(t, 1, 5, 4, first), func(whole bool, d *disk.Disk) {
				l, found, errno := Open(d, 1, 5)
				isNew := errno == api.OK && l.Gen() == 4 && sameRecords(found, [][]byte{first})
				isOld := errno == api.OK && l.Gen() == 3 && len(found) <= len(old) && sameRecords(found, old[:len(found)])
				if whole && !isNew || !isNew && !isOld && errno != api.ErrNone || isOld && len(old) == 0 {
					t.Errorf("%s, a frame of %d bytes: %d, %d records", what, size, errno, len(found))
				}
			})
		}
	}
}

// Nothing of the first block is kept, and what lies behind the last block that is written is left.
func TestBeginWritesWholeBlocks(t *testing.T) {
	image := someBytes(7 * 64)
	for _, size := range someSizes {
		first := record(t, size, 77)
		calls := callsFor(image, 1, 5, 0, frame.Encode(api.Frame{Gen: 4, Data: first}))
		performs(t, image, calls, beginsWith(t, 1, 5, 4, first), func(whole bool, d *disk.Disk) {
			if whole {
				finds(t, "begun", d, 1, 5, 4, first)
			}
		})
	}
}

// The last block of the area has none behind it that could be written as zero bytes.
func TestBeginOfAFullArea(t *testing.T) {
	image := someBytes(7 * 64)
	for blocks := 1; blocks <= 4; blocks++ {
		first := record(t, blocks*64, 5)
		calls := callsFor(image, 2, blocks, 0, frame.Encode(api.Frame{Gen: 4, Data: first}))
		performs(t, image, calls, beginsWith(t, 2, blocks, 4, first), func(whole bool, d *disk.Disk) {
			if !bytes.Equal(d.Image()[(2+blocks)*64:], image[(2+blocks)*64:]) {
				t.Errorf("%d blocks: it wrote behind its area", blocks)
			}
		})
	}
}

// P7.3 and P7.5

// Wherever the power fails in Append, the log is as it was, or has all of the record; with OK it has it. What lay in the area, frames that would go on included, is never found.
func TestAppendAndPower(t *testing.T) {
	for _, ahead := range []int{22, 23, 42, 63, 64, 65, 100, 106, 128, 151} {
		for _, size := range someSizes {
			if ahead+size > 5*64 {
				continue
			}
			first, b := record(t, ahead, 1), record(t, size, 2)
			base := diskOf(t, staleImage(ahead))
			begins(t, base, 1, 5, 6, first)
			image := base.Image()
			calls := callsFor(image, 1, 5, ahead, frame.Encode(api.Frame{Gen: 6, Seq: 1, Data: b}))
			ready := func(d *disk.Disk) func() api.Errno {
				l := finds(t, "ahead of it", d, 1, 5, 6, first)
				return func() api.Errno { return l.Append(b) }
			}
			check := func(whole bool, d *disk.Disk) {
				l, found, errno := Open(d, 1, 5)
				was, is := sameRecords(found, [][]byte{first}), sameRecords(found, [][]byte{first, b})
				if errno != api.OK || l.Gen() != 6 || !was && !is || whole && !is {
					t.Errorf("%d and %d bytes, whole %v: %d, %d records", ahead, size, whole, errno, len(found))
				}
			}
			performs(t, image, calls, ready, check)
		}
	}
}

// staleImage is a disk of seven blocks in which frames with later numbers of generation 6 lie in each block and behind a frame of n bytes.
func staleImage(n int) []byte {
	image := make([]byte, 7*64)
	for block := range 7 {
		copy(image[block*64:], code(6, 1+block%3, "stale"))
		copy(image[block*64+30:], code(6, 2, "stale"))
	}
	copy(image[64+n:], code(6, 1, "stale"))
	return image
}

// Many records, with a failure somewhere in most rounds: what was answered with OK is there, and of the rest at most the last one, whole.
func TestManyFailures(t *testing.T) {
	r := rand.New(rand.NewSource(75))
	for range 40 {
		blocks := 3 + r.Intn(40)
		d := of(t, 50, someBytes(50*64))
		from := r.Intn(50 - blocks + 1)
		l := begins(t, d, from, blocks, 2, []byte("first"))
		records := [][]byte{[]byte("first")}
		for {
			if r.Intn(3) > 0 {
				d.Arm(r.Intn(12))
			}
			b := someBytes(r.Intn(250))
			errno := l.Append(b)
			if errno == api.ErrFull {
				break
			}
			if errno == api.OK {
				records = append(records, b)
			}
			if !d.On() {
				d.Crash([]int{r.Intn(2), r.Intn(2), r.Intn(2)})
				l, records = foundAgain(t, d, from, blocks, records, b, errno)
			}
		}
		d.Crash(nil)
		finds(t, "at the end", d, from, blocks, 2, records...)
	}
}

// foundAgain opens a log after a failure, and fails unless it has the records, or, if Append did not answer OK, these and b.
func foundAgain(t *testing.T, d *disk.Disk, from, blocks int, records [][]byte, b []byte, errno api.Errno) (*Log, [][]byte) {
	t.Helper()
	l, found, e := Open(d, from, blocks)
	isWhole := errno == api.ErrDown && sameRecords(found, append(slices.Clone(records), b))
	if e != api.OK || !isWhole && !sameRecords(found, records) {
		t.Fatalf("after %d: %d, %d records, not %d", errno, e, len(found), len(records))
	}
	tells(t, "after a failure", l, 2, len(found), roomOf(blocks, found))
	return l, found
}

// What an Append left behind in part is not found behind a later record, also where that one ends just ahead of it.
func TestWhatAFailureLeftBehind(t *testing.T) {
	for _, size := range someSizes {
		d := fresh(t, 8)
		l := begins(t, d, 0, 8, 1, record(t, 64, 1))
		left := make([]byte, 370) // from position 64 + 19 of the area on
		for position := 128; position < 400; position += 64 {
			copy(left[position-83:], code(1, 2, "left"))
		}
		d.Arm(7) // the blocks 2 to 7, and a Sync
		if errno := l.Append(left); errno != api.ErrDown {
			t.Fatal(errno)
		}
		d.Crash(nil)
		l = finds(t, "after the failure", d, 0, 8, 1, record(t, 64, 1))
		if image := d.Image(); !bytes.HasPrefix(image[128:], code(1, 2, "left")) {
			t.Fatalf("nothing was left behind: %x", image)
		}
		appends(t, l, record(t, size, 2))
		finds(t, "behind a later record", d, 0, 8, 1, record(t, 64, 1), record(t, size, 2))
	}
}

// P7.3: what the disk holds ahead of the position is kept, also where it was written by somebody else meanwhile.
func TestAppendKeepsWhatTheDiskHolds(t *testing.T) {
	d := fresh(t, 3)
	l := begins(t, d, 1, 2, 1, []byte("ab"))
	block := slices.Concat(code(1, 0, "xy"), make([]byte, 40))
	if errno := d.Write(1, block); errno != api.OK {
		t.Fatal(errno)
	}
	appends(t, l, []byte("c"))
	finds(t, "appended", d, 1, 2, 1, []byte("xy"), []byte("c"))
}
