package kv

import (
	"bytes"
	"maps"
	"math"
	"math/rand"
	"slices"
	"strconv"
	"testing"

	"concierge/api"
	"concierge/disk"
	"concierge/frame"
	"concierge/log"
)

// The calls as the chapter lists them: another signature does not compile.
var (
	_ func(d *disk.Disk) (*Store, api.Errno)               = Open
	_ func(s *Store, l []api.Put) api.Errno                = (*Store).Commit
	_ func(s *Store, key []byte) ([]byte, bool)            = (*Store).Get
	_ func(s *Store, from, to []byte, most int) []api.Pair = (*Store).Scan
	_ func(s *Store, p []byte, most int) []api.Pair        = (*Store).Prefix
	_ func(*Store) int                                     = (*Store).Len
	_ func(*Store) int                                     = (*Store).Turn
	_ func(*Store) bool                                    = (*Store).Up
)

const maxGen = 1152921504606846976 // 2^60

// pairs is what a store must have.
type pairs map[string]string

// apply changes pairs by puts, in order.
func (m pairs) apply(l []api.Put) {
	for _, p := range l {
		delete(m, string(p.Key))
		if !p.Gone {
			m[string(p.Key)] = string(p.Value)
		}
	}
}

// after returns other pairs, as these are after the puts.
func (m pairs) after(l ...api.Put) pairs {
	next := pairs{}
	maps.Copy(next, m)
	next.apply(l)
	return next
}

// puts are those of all pairs by increasing keys.
func (m pairs) puts() []api.Put {
	var l []api.Put
	for _, k := range slices.Sorted(maps.Keys(m)) {
		l = append(l, put(k, m[k]))
	}
	return l
}

// list returns, in order, the first most of the pairs that are asked for.
func (m pairs) list(most int, is func(key string) bool) []api.Pair {
	var l []api.Pair
	for _, p := range m.puts() {
		if len(l) < most && is(string(p.Key)) {
			l = append(l, api.Pair{Key: p.Key, Value: p.Value})
		}
	}
	return l
}

func all(string) bool { return true }

func put(key, value string) api.Put {
	return api.Put{Key: []byte(key), Value: []byte(value)}
}

func gone(key string) api.Put {
	return api.Put{Key: []byte(key), Gone: true}
}

// long is a text of n letters.
func long(n int) string {
	return string(bytes.Repeat([]byte("v"), n))
}

func someBytes(n int) []byte {
	b := make([]byte, n)
	rand.New(rand.NewSource(int64(n) + 1)).Read(b)
	return b
}

func samePairs(a, b []api.Pair) bool {
	return slices.EqualFunc(a, b, func(x, y api.Pair) bool {
		return bytes.Equal(x.Key, y.Key) && bytes.Equal(x.Value, y.Value)
	})
}

// fresh returns a disk of that many blocks of zero bytes.
func fresh(t *testing.T, blocks int) *disk.Disk {
	t.Helper()
	d, errno := disk.New(blocks)
	if errno != api.OK {
		t.Fatal(blocks, errno)
	}
	return d
}

// of returns a disk that holds the image.
func of(t *testing.T, image []byte) *disk.Disk {
	t.Helper()
	d, errno := disk.Of(image)
	if errno != api.OK {
		t.Fatal(len(image), errno)
	}
	return d
}

func opens(t *testing.T, d *disk.Disk) *Store {
	t.Helper()
	s, errno := Open(d)
	if errno != api.OK || s == nil || !s.Up() {
		t.Fatalf("Open: %v, %d", s, errno)
	}
	return s
}

// opensNot fails unless Open answers that error only, and writes nothing.
func opensNot(t *testing.T, what string, d *disk.Disk, e api.Errno) {
	t.Helper()
	calls, image := d.Calls(), d.Image()
	if s, errno := Open(d); s != nil || errno != e {
		t.Errorf("%s: %v, %d, not %d", what, s, errno, e)
	}
	if d.Calls() != calls || !bytes.Equal(d.Image(), image) {
		t.Errorf("%s: something was written", what)
	}
}

func commits(t *testing.T, s *Store, l ...api.Put) {
	t.Helper()
	if errno := s.Commit(l); errno != api.OK {
		t.Fatalf("Commit of %d puts: %d", len(l), errno)
	}
}

// commitsNot fails unless Commit answers that error, writes nothing and changes nothing.
func commitsNot(t *testing.T, what string, d *disk.Disk, s *Store, e api.Errno, l ...api.Put) {
	t.Helper()
	calls, image, turn, up := d.Calls(), d.Image(), s.Turn(), s.Up()
	before := s.Scan(nil, nil, math.MaxInt)
	if errno := s.Commit(l); errno != e {
		t.Errorf("%s: %d, not %d", what, errno, e)
	}
	if d.Calls() != calls || !bytes.Equal(d.Image(), image) {
		t.Errorf("%s: something was written", what)
	}
	if s.Turn() != turn || s.Up() != up || !samePairs(s.Scan(nil, nil, math.MaxInt), before) {
		t.Errorf("%s: something changed", what)
	}
}

// has fails unless the store is of that generation and has these pairs only, by all that can be asked.
func has(t *testing.T, what string, s *Store, turn int, m pairs) {
	t.Helper()
	if s.Turn() != turn || s.Len() != len(m) {
		t.Fatalf("%s: generation %d, %d pairs, not %d, %d", what, s.Turn(), s.Len(), turn, len(m))
	}
	want := m.list(math.MaxInt, all)
	if got := s.Scan(nil, nil, math.MaxInt); !samePairs(got, want) {
		t.Fatalf("%s: Scan is %q, not %q", what, got, want)
	}
	if got := s.Prefix(nil, math.MaxInt); !samePairs(got, want) {
		t.Fatalf("%s: Prefix is %q, not %q", what, got, want)
	}
	for k, v := range m {
		if got, ok := s.Get([]byte(k)); !ok || string(got) != v {
			t.Fatalf("%s: Get of %q is %q, %v, not %q", what, k, got, ok, v)
		}
		if _, ok := m[k+"?"]; !ok {
			hasNone(t, s, k+"?")
		}
	}
}

func hasNone(t *testing.T, s *Store, key string) {
	t.Helper()
	if got, ok := s.Get([]byte(key)); ok || len(got) != 0 {
		t.Errorf("Get of %q is %q, %v", key, got, ok)
	}
}

// records are those of batches, one after the other.
func records(batches ...[]api.Put) [][]byte {
	var l [][]byte
	for _, b := range batches {
		l = append(l, frame.Batch(b))
	}
	return l
}

// holds fails unless the log in the area from a block on is of that generation and has these records.
func holds(t *testing.T, what string, d *disk.Disk, from, gen int, want [][]byte) {
	t.Helper()
	l, found, errno := log.Open(d, from, d.Blocks()/2)
	if errno != api.OK || l.Gen() != gen || !slices.EqualFunc(found, want, bytes.Equal) {
		t.Fatalf("%s: area %d: %d, generation %d, %d records, not %d, %d", what, from, errno, l.Gen(), len(found), gen, len(want))
	}
}

// holdsNone fails unless there is no log in the area from a block on.
func holdsNone(t *testing.T, what string, d *disk.Disk, from int) {
	t.Helper()
	if _, _, errno := log.Open(d, from, d.Blocks()/2); errno != api.ErrNone {
		t.Fatalf("%s: area %d: %d", what, from, errno)
	}
}

// lay writes a log into an area of a disk, by log's own calls.
func lay(t *testing.T, d *disk.Disk, from, gen int, records [][]byte) {
	t.Helper()
	l, errno := log.Begin(d, from, d.Blocks()/2, gen, records[0])
	for _, b := range records[1:] {
		if errno == api.OK {
			errno = l.Append(b)
		}
	}
	if errno != api.OK {
		t.Fatal(from, gen, errno)
	}
}

// This is the chapter's example.
func TestExample(t *testing.T) {
	d := fresh(t, 8)
	commits(t, opens(t, d), put("a", "1"))
	has(t, "the example", opens(t, d), 1, pairs{"a": "1"})
	want := make([]byte, 8*64)
	copy(want, slices.Concat(
		frame.Encode(api.Frame{Gen: 1, Seq: 0, Data: []byte{0}}),
		frame.Encode(api.Frame{Gen: 1, Seq: 1, Data: []byte{1, 0, 1, 'a', 1, '1'}}),
	))
	if !bytes.Equal(d.Image(), want) {
		t.Errorf("%x", d.Image())
	}
}

// P9.1

func TestOpenOfTooFewBlocks(t *testing.T) {
	d := fresh(t, 1)
	opensNot(t, "one block", d, api.ErrArg)
	full := of(t, append(frame.Encode(api.Frame{Gen: 1, Data: []byte{0}}), make([]byte, 41)...))
	opensNot(t, "one block with a log", full, api.ErrArg)
	d.Arm(0)
	opensNot(t, "one block without power", d, api.ErrArg)
	opensNot(t, "no disk", nil, api.ErrArg)
}

func TestOpenWithoutPower(t *testing.T) {
	for _, blocks := range []int{2, 3, 4096} {
		d := fresh(t, blocks)
		d.Arm(0)
		opensNot(t, "an empty disk", d, api.ErrDown)
	}
	d := fresh(t, 8)
	lay(t, d, 4, 9, records(nil, []api.Put{put("a", "b")}))
	d.Arm(0)
	opensNot(t, "a disk with a log", d, api.ErrDown)
	wrong := fresh(t, 8)
	lay(t, wrong, 0, 1, [][]byte{nil})
	wrong.Arm(0)
	opensNot(t, "a disk with a wrong record", wrong, api.ErrDown)
}

// Where there is no log, Open begins one in the first area, and writes nowhere else.
func TestOpenBegins(t *testing.T) {
	for _, blocks := range []int{2, 3, 4, 5, 8, 101, 4096} {
		for _, image := range [][]byte{make([]byte, blocks*64), someBytes(blocks * 64), bytes.Repeat([]byte{245}, blocks*64)} {
			d := of(t, image)
			s := opens(t, d)
			has(t, "begun", s, 1, pairs{})
			hasNone(t, s, "")
			want := bytes.Clone(image)
			clear(want[copy(want, frame.Encode(api.Frame{Gen: 1, Data: []byte{0}})):64])
			if d.Calls() != 2 || !bytes.Equal(d.Image(), want) {
				t.Errorf("%d blocks: %d calls, %x", blocks, d.Calls(), d.Image()[:64])
			}
			has(t, "begun and opened", opens(t, d), 1, pairs{})
			if d.Calls() != 2 {
				t.Errorf("%d blocks: something was written again", blocks)
			}
		}
	}
}

// What begins no area, or is of generation 0, is no log.
func TestOpenOfNoLog(t *testing.T) {
	batch := frame.Batch([]api.Put{put("a", "b")})
	examples := []struct {
		at int
		f  api.Frame
	}{
		{0, api.Frame{Gen: 0, Data: batch}},
		{0, api.Frame{Gen: 5, Seq: 1, Data: batch}},
		{1, api.Frame{Gen: 5, Data: batch}},
		{64, api.Frame{Gen: 5, Data: batch}},
		{3 * 64, api.Frame{Gen: 5, Data: batch}},
		{4 * 64, api.Frame{Gen: 5, Data: batch}}, // of five blocks, the last is in neither area
	}
	for _, e := range examples {
		image := make([]byte, 5*64)
		copy(image[e.at:], frame.Encode(e.f))
		has(t, "begun", opens(t, of(t, image)), 1, pairs{})
	}
}

// The area with the greater generation counts, the first one if both are equal, and nothing of the other one does.
func TestOpenTakesTheGreaterGeneration(t *testing.T) {
	first, second := pairs{"a": "1", "x": "first"}, pairs{"b": "2", "x": "second"}
	gens := []int{0, 1, 2, 3, 255, 256, 1 << 32, maxGen - 1, maxGen}
	for _, blocks := range []int{4, 5, 8, 9, 64} {
		for _, a := range gens {
			for _, b := range gens {
				d := fresh(t, blocks)
				if a > 0 {
					lay(t, d, 0, a, records(first.puts()))
				}
				if b > 0 {
					lay(t, d, blocks/2, b, records(second.puts()))
				}
				calls := d.Calls()
				want := first
				if b > a {
					want = second
				}
				if a+b == 0 {
					want, calls = pairs{}, calls+2
				}
				has(t, "two logs", opens(t, d), max(a, b, 1), want)
				if d.Calls() != calls {
					t.Errorf("generations %d and %d: something was written", a, b)
				}
			}
		}
	}
}

// The store goes on in the area that it found.
func TestCommitGoesOnWhereOpenWas(t *testing.T) {
	for _, gens := range [][2]int{{1, 0}, {0, 1}, {7, 7}, {7, 6}, {6, 7}} {
		d := fresh(t, 9)
		old := [2][][]byte{records([]api.Put{put("a", "1")}), records([]api.Put{put("a", "2")})}
		for i, gen := range gens {
			if gen > 0 {
				lay(t, d, i*4, gen, old[i])
			}
		}
		s := opens(t, d)
		l := []api.Put{put("c", "3"), gone("a")}
		commits(t, s, l...)
		used := 0
		if gens[1] > gens[0] {
			used = 1
		}
		holds(t, "gone on", d, used*4, gens[used], append(old[used], frame.Batch(l)))
		if gens[1-used] > 0 {
			holds(t, "left alone", d, 4-used*4, gens[1-used], old[1-used])
		} else {
			holdsNone(t, "left alone", d, 4-used*4)
		}
		has(t, "gone on", opens(t, d), gens[used], pairs{"c": "3"})
	}
}

// Records are applied in order, and the puts of each of them, too.
func TestOpenAppliesInOrder(t *testing.T) {
	batches := [][]api.Put{
		{put("a", "1"), put("b", "2"), put("c", "3")},
		{put("b", "4"), gone("a"), gone("nothing")},
		nil,
		{gone("c"), put("c", "5"), gone("b"), put("d", "6"), put("d", ""), put("", "7")},
		{put("a", "8"), gone("a"), put("e", "9"), put("e", "10")},
	}
	var m pairs
	for n := range len(batches) {
		d := fresh(t, 40)
		lay(t, d, 20, 3, records(batches[:n+1]...))
		m = m.after(batches[n]...)
		has(t, "in order", opens(t, d), 3, m)
	}
	if !maps.Equal(m, pairs{"": "7", "c": "5", "d": "", "e": "10"}) {
		t.Error(m)
	}
}

// What the records tell is not asked for more than that they are batches.
func TestOpenOfAnyBatches(t *testing.T) {
	d := fresh(t, 2048)
	first := []api.Put{put("b", "1"), put("a", "2"), gone("b"), put("a", long(9000)), put(long(600), "3")}
	lay(t, d, 0, 1, records(first))
	has(t, "any batch", opens(t, d), 1, pairs{}.after(first...))
}

// No Batches: nothing, a put that is neither, what is too short, what goes on.
var noBatches = [][]byte{nil, {1}, {1, 2, 0}, {1, 0, 1, 'a', 2, 'b'}, {0, 0}, {1, 1, 1, 'a', 0}, {128, 0}, {255, 255, 255}, []byte("no batch")}

func TestOpenOfNoBatch(t *testing.T) {
	batch := frame.Batch([]api.Put{put("a", "b")})
	for _, b := range noBatches {
		for _, l := range [][][]byte{{b}, {b, batch}, {batch, b}, {batch, b, batch}, {batch, batch, batch, b}} {
			for _, from := range []int{0, 8} {
				d := fresh(t, 16)
				lay(t, d, from, 4, l)
				opensNot(t, "one log", d, api.ErrForm)
				lay(t, d, 8-from, 3, [][]byte{batch})
				opensNot(t, "an older log beside it", d, api.ErrForm)
				lay(t, d, 8-from, 5, [][]byte{batch})
				has(t, "a newer log beside it", opens(t, d), 5, pairs{"a": "b"})
			}
		}
	}
}

// Of two logs of one generation, the first one's records are asked only.
func TestOpenOfNoBatchInEqualGenerations(t *testing.T) {
	for _, from := range []int{0, 8} {
		d := fresh(t, 16)
		lay(t, d, from, 4, [][]byte{nil})
		lay(t, d, 8-from, 4, records(nil))
		if from == 0 {
			opensNot(t, "the first one is wrong", d, api.ErrForm)
		} else {
			has(t, "the second one is wrong", opens(t, d), 4, pairs{})
		}
	}
}

// P9.2

func TestCommitAppliesInOrder(t *testing.T) {
	d := fresh(t, 100)
	s := opens(t, d)
	m := pairs{}
	written := [][]byte{{0}}
	for _, l := range [][]api.Put{
		{put("b", "1"), put("a", "2")},
		{put("a", "3"), gone("a"), put("c", "4"), put("c", "5")},
		{gone("a"), gone("nothing"), put("a", "6"), put("b", "")},
		{gone("b"), put("", "7"), gone("c"), put("\x00", "\x00"), put("\xff", "\xff")},
		{gone(""), {Key: []byte("a"), Value: []byte("not told"), Gone: true}},
		{gone("a"), gone("nothing")},
		{put("\xff", "\xff")},
	} {
		commits(t, s, l...)
		m.apply(l)
		written = append(written, frame.Batch(l))
		has(t, "committed", s, 1, m)
		holds(t, "committed", d, 0, 1, written)
		has(t, "opened again", opens(t, d), 1, m)
	}
	holdsNone(t, "the other area", d, 50)
	if !maps.Equal(m, pairs{"\x00": "\x00", "\xff": "\xff"}) {
		t.Error(m)
	}
}

func TestCommitOfNothing(t *testing.T) {
	d := fresh(t, 2)
	s := opens(t, d)
	commits(t, s, put("a", "b"))
	commitsNot(t, "no puts", d, s, api.OK)
	commitsNot(t, "an empty list", d, s, api.OK, []api.Put{}...)
	d.Arm(0)
	commitsNot(t, "no puts and no power", d, s, api.OK)
	has(t, "nothing committed", s, 1, pairs{"a": "b"})
}

// many are that many puts of one key.
func many(n int) []api.Put {
	return slices.Repeat([]api.Put{put("k", "v")}, n)
}

func TestCommitOfTheLongest(t *testing.T) {
	key, value := long(512), long(8192)
	for _, e := range []struct {
		l    []api.Put
		want pairs
	}{
		{many(1000), pairs{"k": "v"}},
		{[]api.Put{put(key, "v")}, pairs{key: "v"}},
		{[]api.Put{put("k", value)}, pairs{"k": value}},
		{[]api.Put{put(key, value)}, pairs{key: value}},
		{[]api.Put{put(key, "v"), gone(key)}, pairs{}},
		{[]api.Put{put("k", ""), {Key: []byte("k"), Value: []byte(value), Gone: true}}, pairs{}},
	} {
		d := fresh(t, 1000)
		s := opens(t, d)
		commits(t, s, e.l...)
		has(t, "committed", s, 1, e.want)
		has(t, "opened again", opens(t, d), 1, e.want)
	}
}

// tooLong are lists of which none may be committed.
func tooLong() [][]api.Put {
	key, value := put(long(513), "v"), put("k", long(8193))
	return [][]api.Put{
		many(1001), many(5000), {key}, {value}, {gone(long(513))}, {put(long(60000), "")}, {put("", long(70000))},
		{{Key: []byte("k"), Value: []byte(long(8193)), Gone: true}},
		append(many(999), key), append(many(999), value), append([]api.Put{key}, many(3)...), append([]api.Put{value}, many(3)...),
		{put("a", "b"), key, put("c", "d")}, {put("a", "b"), value, gone("a")}, append(many(1000), value),
	}
}

// Nothing of a list that is too long is committed, whether or not it would fit.
func TestCommitOfTooLong(t *testing.T) {
	for _, blocks := range []int{2, 4096} {
		for _, l := range tooLong() {
			d := fresh(t, blocks)
			s := opens(t, d)
			commits(t, s, put("k", "1"))
			commitsNot(t, "too long", d, s, api.ErrLong, l...)
			d.Arm(0)
			commitsNot(t, "too long without power", d, s, api.ErrLong, l...)
			d.Crash(nil)
			commits(t, s, gone("k"))
			has(t, "gone on", s, s.Turn(), pairs{})
		}
	}
}

// In an area of two blocks, 105 bytes are left at first: a value of up to 78 bytes is appended, one of up to 101 begins the next generation.
func TestCommitAtTheEdges(t *testing.T) {
	for _, blocks := range []int{4, 5} {
		for n := range 128 {
			d := fresh(t, blocks)
			s := opens(t, d)
			l := []api.Put{put("a", long(n))}
			if n > 101 {
				commitsNot(t, "full", d, s, api.ErrFull, l...)
				has(t, "full", s, 1, pairs{})
				has(t, "full and opened", opens(t, d), 1, pairs{})
				commits(t, s, put("a", long(78)))
				continue
			}
			commits(t, s, l...)
			turn := 1
			if n <= 78 {
				holds(t, "appended", d, 0, 1, records(nil, l))
				holdsNone(t, "appended", d, 2)
			} else {
				turn = 2
				holds(t, "begun", d, 0, 1, records(nil))
				holds(t, "begun", d, 2, 2, records(l))
			}
			has(t, "committed", s, turn, pairs{"a": long(n)})
			has(t, "committed and opened", opens(t, d), turn, pairs{"a": long(n)})
		}
	}
}

// A new generation begins with all pairs by increasing keys as they are after the batch, and not with the batch.
func TestTheFirstRecordIsAllPairs(t *testing.T) {
	d := fresh(t, 8)
	s := opens(t, d)
	commits(t, s, put("d", "1"), put("b", "2"), put("a", "3"), put("e", "x"))
	commits(t, s, put("f", long(120)))
	has(t, "ahead of it", s, 1, pairs{"a": "3", "b": "2", "d": "1", "e": "x", "f": long(120)})
	before := d.Image()
	commits(t, s, put("c", "4"), gone("d"), gone("f"), put("d", "5"), put("a", "6"), gone("e"), put("g", "7"), gone("h"), gone("i"))
	after := pairs{"a": "6", "b": "2", "c": "4", "d": "5", "g": "7"}
	has(t, "after it", s, 2, after)
	holds(t, "after it", d, 4, 2, records(after.puts()))
	if !bytes.Equal(d.Image()[:256], before[:256]) {
		t.Error("the older generation was changed")
	}
	commits(t, s, gone("a"), gone("b"), gone("c"), gone("d"), gone("g"))
	commits(t, s, put("x", long(140)))
	commits(t, s, gone("x"))
	has(t, "no pairs", s, 3, pairs{})
	holds(t, "no pairs", d, 0, 3, records(nil))
}

// The areas take turns, as long as there is need, also where the disk has a block that is in neither.
func TestAreasTakeTurns(t *testing.T) {
	for _, blocks := range []int{2, 3, 4, 7, 16} {
		d := fresh(t, blocks)
		image := d.Image()
		s := opens(t, d)
		turns := map[int]int{1: 0}
		for i := range 100 {
			before, turn := d.Image(), s.Turn()
			l := []api.Put{put("key", strconv.Itoa(i))}
			commits(t, s, l...)
			if s.Turn() == turn+1 {
				turns[turn+1] = blocks / 2 * (turn % 2)
				holds(t, "begun", d, turns[turn+1], turn+1, records(l))
			} else if s.Turn() != turn {
				t.Fatal(blocks, i, turn, s.Turn())
			}
			other := blocks/2 - turns[s.Turn()]
			if area := blocks / 2 * 64; !bytes.Equal(d.Image()[other*64:other*64+area], before[other*64:other*64+area]) {
				t.Fatal(blocks, i, "the other area was changed")
			}
			has(t, "opened again", opens(t, d), s.Turn(), pairs{"key": strconv.Itoa(i)})
		}
		if s.Turn() < 5 || !bytes.Equal(d.Image()[blocks/2*128:], image[blocks/2*128:]) {
			t.Error(blocks, s.Turn())
		}
	}
}

// Pairs that do not fit are not committed, and the store goes on with others.
func TestCommitWithoutRoom(t *testing.T) {
	d := fresh(t, 4)
	s := opens(t, d)
	m := pairs{}
	for s.Turn() < 3 {
		l := []api.Put{put("a", long(30)), put("b", strconv.Itoa(s.Turn()))}
		commits(t, s, l...)
		m.apply(l)
	}
	// The pairs take 62 bytes of the area's 128, and one more takes 4 and its value.
	commitsNot(t, "full", d, s, api.ErrFull, put("c", long(63)))
	commitsNot(t, "full still", d, s, api.ErrFull, put("c", long(100)), gone("a"), put("a", ""), gone("d"), gone("e"))
	commitsNot(t, "the longest", d, s, api.ErrFull, put("c", long(8192)))
	has(t, "full", s, 3, m)
	has(t, "full and opened", opens(t, d), 3, m)
	commits(t, s, put("c", long(62)))
	m["c"] = long(62)
	has(t, "just full", s, 4, m)
	has(t, "just full and opened", opens(t, d), 4, m)
	commits(t, s, gone("a"), gone("c"))
	has(t, "room again", s, 5, pairs{"b": "2"})
	has(t, "room again and opened", opens(t, d), 5, pairs{"b": "2"})
}

// A batch that no record has room for begins the next generation if the pairs after it have one.
func TestCommitOfMoreThanARecord(t *testing.T) {
	d := fresh(t, 4096)
	s := opens(t, d)
	l := slices.Repeat([]api.Put{put("k", long(8192))}, 1000)
	l[999] = put("k", "last")
	commits(t, s, l...)
	has(t, "one pair", s, 2, pairs{"k": "last"})
	holds(t, "one pair", d, 2048, 2, records([]api.Put{put("k", "last")}))
	var wide []api.Put
	for i := range 8 {
		wide = append(wide, put(strconv.Itoa(i), long(8192)))
	}
	commitsNot(t, "more than a record of pairs", d, s, api.ErrFull, wide...)
	commits(t, s, wide[:7]...)
	m := pairs{"k": "last"}.after(wide[:7]...)
	has(t, "less than a record", s, 2, m)
	commits(t, s, wide[7])
	m.apply(wide[7:])
	has(t, "more than a record in two", s, 2, m)
	fills(t, s, m)
	has(t, "full", s, 2, m)
	has(t, "full and opened", opens(t, d), 2, m)
	commitsNot(t, "full", d, s, api.ErrFull, put(long(100), long(8192)))
	away := []api.Put{put("new", long(8192)), put("new", long(7))}
	for k := range m {
		away = append(away, gone(k))
	}
	commits(t, s, away...)
	has(t, "emptied", s, 3, pairs{"new": long(7)})
	has(t, "emptied and opened", opens(t, d), 3, pairs{"new": long(7)})
}

// fills commits pairs with long values, which m gets too, as long as there is room for another one.
func fills(t *testing.T, s *Store, m pairs) {
	t.Helper()
	for i := range 50 {
		l := []api.Put{put("fill"+strconv.Itoa(i), long(8192))}
		switch errno := s.Commit(l); errno {
		case api.OK:
			m.apply(l)
		case api.ErrFull:
			return
		default:
			t.Fatal(i, errno)
		}
	}
	t.Fatal("there is always room")
}

// There is no generation above 2^60, but the log of that one goes on while there is room.
func TestCommitOfTheLastGeneration(t *testing.T) {
	d := fresh(t, 4)
	lay(t, d, 2, maxGen-1, records(nil))
	s := opens(t, d)
	commits(t, s, put("a", long(79)))
	has(t, "the last one", s, maxGen, pairs{"a": long(79)})
	holds(t, "the last one", d, 0, maxGen, records([]api.Put{put("a", long(79))}))
	commitsNot(t, "no room", d, s, api.ErrFull, put("a", "1"))
	d.Arm(0)
	commitsNot(t, "no room and no power", d, s, api.ErrFull, put("a", "1"))
	has(t, "the last one still", s, maxGen, pairs{"a": long(79)})

	d = fresh(t, 4)
	lay(t, d, 0, maxGen, records(nil))
	s = opens(t, d)
	commits(t, s, put("a", "1"))
	commitsNot(t, "no room", d, s, api.ErrFull, put("a", long(79)))
	commits(t, s, put("b", "2"))
	has(t, "room for less", s, maxGen, pairs{"a": "1", "b": "2"})
	has(t, "room for less, opened", opens(t, d), maxGen, pairs{"a": "1", "b": "2"})
	holdsNone(t, "the other area", d, 2)
}

// P9.3

func TestGet(t *testing.T) {
	s := opens(t, fresh(t, 100))
	hasNone(t, s, "")
	hasNone(t, s, "a")
	commits(t, s, put("a", "1"), put("ab", ""), put("\x00", "\x00"))
	has(t, "three", s, 1, pairs{"a": "1", "ab": "", "\x00": "\x00"})
	for _, k := range []string{"", "b", "aa", "abc", "\x00\x00", "A", long(10000)} {
		hasNone(t, s, k)
	}
	commits(t, s, gone("a"), put("", "e"))
	hasNone(t, s, "a")
	if got, ok := s.Get(nil); !ok || string(got) != "e" {
		t.Errorf("%q, %v", got, ok)
	}
}

// words are all of the letters up to a length.
func words(letters string, length int) []string {
	l := []string{""}
	for i := 0; i < len(l); i++ {
		if len(l[i]) < length {
			for _, c := range []byte(letters) {
				l = append(l, l[i]+string([]byte{c}))
			}
		}
	}
	return l
}

func TestScanAndPrefix(t *testing.T) {
	s := opens(t, fresh(t, 400))
	m := pairs{}
	for i, k := range words("\x00a\xfe\xff", 3) {
		if i%3 != 0 || len(k) < 2 {
			l := []api.Put{put(k, strconv.Itoa(i))}
			commits(t, s, l...)
			m.apply(l)
		}
	}
	has(t, "words", s, s.Turn(), m)
	asked := append(words("\x00a\xfe\xff", 3), "a\x01", "b", "\xff\xff\xff\xff", "\x01")
	for _, p := range asked {
		for _, most := range []int{math.MinInt, -1, 0, 1, 2, 5, 16, 17, 1000, math.MaxInt} {
			want := m.list(most, func(k string) bool { return len(k) >= len(p) && k[:len(p)] == p })
			if got := s.Prefix([]byte(p), most); !samePairs(got, want) {
				t.Fatalf("Prefix of %q, %d: %q, not %q", p, most, got, want)
			}
		}
		for _, to := range asked {
			most := len(p)*3 + len(to)
			want := m.list(most, func(k string) bool { return k >= p && (to == "" || k < to) })
			if got := s.Scan([]byte(p), []byte(to), most); !samePairs(got, want) {
				t.Fatalf("Scan from %q to %q, %d: %q, not %q", p, to, most, got, want)
			}
		}
	}
}

func TestPrefixOfNothing(t *testing.T) {
	s := opens(t, fresh(t, 2))
	for _, p := range [][]byte{nil, {}, {0}, {255}, []byte("a")} {
		if l := s.Prefix(p, 10); len(l) != 0 {
			t.Error(p, l)
		}
		if l := s.Scan(p, nil, 10); len(l) != 0 {
			t.Error(p, l)
		}
	}
	if s.Len() != 0 {
		t.Error(s.Len())
	}
}

// R1: a store that Open did not answer is down and has nothing.
func TestNoStore(t *testing.T) {
	for _, s := range []*Store{nil, {}} {
		if s.Up() || s.Len() != 0 || s.Turn() != 0 {
			t.Error(s.Up(), s.Len(), s.Turn())
		}
		hasNone(t, s, "")
		if len(s.Scan(nil, nil, 9)) != 0 || len(s.Prefix(nil, 9)) != 0 {
			t.Error("it has pairs")
		}
		for _, l := range [][]api.Put{nil, {put("a", "b")}, many(1001)} {
			if errno := s.Commit(l); errno != api.ErrDown {
				t.Error(len(l), errno)
			}
		}
	}
}

// R3: what is handed in is neither changed nor kept.
func TestArgumentsAreNotShared(t *testing.T) {
	d := fresh(t, 8)
	s := opens(t, d)
	for _, n := range []int{10, 60, 150} { // the last one begins a generation
		key, value := []byte("key"), bytes.Repeat([]byte("v"), n)
		l := []api.Put{{Key: key, Value: value}, {Key: []byte("b"), Value: []byte("x"), Gone: true}}
		commits(t, s, l...)
		if string(key) != "key" || string(value) != long(n) || len(l) != 2 || l[0].Gone || !l[1].Gone || string(l[1].Key) != "b" || string(l[1].Value) != "x" {
			t.Fatal("the arguments were changed")
		}
		clear(key)
		clear(value)
		clear(l)
		has(t, "what was handed in is changed", s, s.Turn(), pairs{"key": long(n)})
		has(t, "what was handed in is changed", opens(t, d), s.Turn(), pairs{"key": long(n)})
	}
	if s.Turn() != 2 {
		t.Error(s.Turn())
	}
	p := []byte("k\xff")
	s.Prefix(p[:1:1], 9)
	s.Prefix(p, 9)
	s.Scan(p, p, 9)
	s.Get(p)
	if string(p) != "k\xff" {
		t.Errorf("%q", p)
	}
}

// spoil changes bytes and what lies behind them.
func spoil(b []byte) {
	_ = append(b, "xyz"...)
	clear(b[:cap(b)])
}

// R3: results are the caller's, and two of one answer share nothing.
func TestResultsAreNotShared(t *testing.T) {
	d := fresh(t, 8)
	s := opens(t, d)
	m := pairs{"a": "1", "ab": "2", "b": "3"}
	commits(t, s, m.puts()...)
	for _, s := range []*Store{s, opens(t, d)} {
		for _, l := range [][]api.Pair{s.Scan(nil, nil, 9), s.Prefix(nil, 9), s.Prefix([]byte("a"), 9), s.Scan([]byte("a"), []byte("b"), 9)} {
			for i, x := range l {
				key, value := string(x.Key), string(x.Value)
				if m[key] != value {
					t.Errorf("%d: %q to %q", i, key, value)
				}
				spoil(x.Key)
				if string(x.Value) != value {
					t.Error("the value follows the key")
				}
				spoil(x.Value)
			}
		}
		got, _ := s.Get([]byte("a"))
		spoil(got)
		has(t, "the results are changed", s, 1, m)
	}
	has(t, "the results are changed", opens(t, d), 1, m)
}

// Stores on two disks go on by themselves.
func TestStoresAreIndependent(t *testing.T) {
	a, b := fresh(t, 4), fresh(t, 4)
	s, other := opens(t, a), opens(t, b)
	commits(t, s, put("a", "1"))
	commits(t, other, put("b", "2"))
	b.Arm(0)
	if errno := other.Commit(many(1)); errno != api.ErrDown {
		t.Error(errno)
	}
	commits(t, s, put("c", "3"))
	has(t, "one", s, 1, pairs{"a": "1", "c": "3"})
	has(t, "another one", other, 1, pairs{"b": "2"})
}
