package kv

import (
	"bytes"
	"math"
	"math/rand"
	"slices"
	"strconv"
	"testing"

	"concierge/api"
	"concierge/disk"
	"concierge/frame"
)

// model is a store by the words of the chapter: its pairs, and of the log the generation and the bytes that are left in its area.
type model struct {
	size  int // the bytes of an area
	pairs pairs
	turn  int
	room  int
}

// begun is the model of a store that has begun on a disk of so many blocks.
func begun(blocks int) model {
	size := blocks / 2 * 64
	return model{size: size, pairs: pairs{}, turn: 1, room: size - 23}
}

// commit is what a store must answer to a batch that is neither empty nor too long, while there is power, and what it is then.
func (m model) commit(l []api.Put) (model, api.Errno) {
	next := model{size: m.size, pairs: m.pairs.after(l...), turn: m.turn}
	record := frame.Size(len(frame.Batch(l)))
	if record > 0 && record <= m.room {
		next.room = m.room - record
		return next, api.OK
	}
	first := frame.Size(len(frame.Batch(next.pairs.puts())))
	if first == 0 || first > m.size || m.turn == maxGen {
		return m, api.ErrFull
	}
	next.turn++
	next.room = m.size - first
	return next, api.OK
}

// script is batches that are committed one after the other.
type script [][]api.Put

// models are those of a store on a disk of so many blocks after each batch, with what it answered to it.
func (s script) models(blocks int) ([]model, []api.Errno) {
	l := []model{begun(blocks)}
	var answers []api.Errno
	for _, b := range s {
		m, e := l[len(l)-1].commit(b)
		l = append(l, m)
		answers = append(answers, e)
	}
	return l, answers
}

// somePicks are picks of none, of all, of each block by itself and of some together.
func somePicks() [][]int {
	picks := [][]int{nil, {0}, {1}, {-1}, {0, 1}, {1, 0}, {1, 1, 0}, {0, 1, 1}}
	for i := range 5 {
		one := make([]int, 5)
		one[i] = 1
		picks = append(picks, one)
	}
	return picks
}

// isModel fails unless the store is as the model has it.
func isModel(t *testing.T, what string, s *Store, m model) {
	t.Helper()
	has(t, what, s, m.turn, m.pairs)
}

// goesOn commits the batches of a script from a number on, and returns the number of the first one that is answered by ErrDown.
func goesOn(t *testing.T, s *Store, l script, from int, models []model, answers []api.Errno) int {
	t.Helper()
	for i := from; i < len(l); i++ {
		e := s.Commit(l[i])
		if e == api.ErrDown {
			isModel(t, "down", s, models[i])
			return i
		}
		if e != answers[i] {
			t.Fatalf("batch %d: %d, not %d", i, e, answers[i])
		}
		isModel(t, "committed", s, models[i+1])
	}
	return len(l)
}

// isDown fails unless all Commits are answered by ErrDown, and nothing is written.
func isDown(t *testing.T, d *disk.Disk, s *Store) {
	t.Helper()
	if s.Up() {
		t.Fatal("up after ErrDown")
	}
	for _, l := range [][]api.Put{nil, {}, {put("a", "b")}, {gone("a")}, {put("a", long(8192))}, many(1001), {put(long(513), "")}} {
		commitsNot(t, "down", d, s, api.ErrDown, l...)
	}
}

// survives lets the power fail after each number of calls while a store is opened on a disk of the image and batches are committed, ends that with all picks, and fails unless what Open finds then is what was answered, or this and all of the batch that was not; and unless it goes on from there as if nothing had happened.
func survives(t *testing.T, image []byte, l script) {
	t.Helper()
	models, answers := l.models(len(image) / 64)
	whole := of(t, image)
	goesOn(t, opens(t, whole), l, 0, models, answers)
	for n := range whole.Calls() + 1 {
		for _, picks := range somePicks() {
			d := of(t, image)
			d.Arm(n)
			s, at := fails(t, d, l, models, answers)
			d.Crash(picks)
			if s != nil && at < len(l) {
				isDown(t, d, s) // there is power again, but not for this store
				isModel(t, "down with power", s, models[at])
			}
			at = foundAgain(t, d, at, models)
			if goesOn(t, opens(t, d), l, at, models, answers) != len(l) {
				t.Fatalf("power for %d calls, picks %d: down again", n, picks)
			}
			isModel(t, "at the end", opens(t, d), models[len(l)])
		}
	}
}

// fails opens a store on a disk whose power fails some time, and commits batches up to then. It returns the store, if there is one, and the number of the batch at which it failed, or 0 for Open.
func fails(t *testing.T, d *disk.Disk, l script, models []model, answers []api.Errno) (*Store, int) {
	t.Helper()
	s, errno := Open(d)
	if errno != api.OK {
		if s != nil || errno != api.ErrDown || d.On() {
			t.Fatalf("%v, %d", s, errno)
		}
		return nil, 0
	}
	at := goesOn(t, s, l, 0, models, answers)
	if at < len(l) {
		isDown(t, d, s)
	}
	if d.On() {
		t.Fatal("the power did not fail")
	}
	return s, at
}

// foundAgain opens a store after a failure at a batch, fails unless it is as it was ahead of it or after all of it, and returns the number of the batch that comes next. After a failure in Open there was none that could be applied.
func foundAgain(t *testing.T, d *disk.Disk, at int, models []model) int {
	t.Helper()
	s := opens(t, d)
	if at+1 < len(models) && !isLike(s, models[at]) {
		at++
	}
	isModel(t, "found again", s, models[at])
	calls := d.Calls()
	isModel(t, "found once more", opens(t, d), models[at])
	if d.Calls() != calls {
		t.Fatal("something was written")
	}
	return at
}

// isLike reports whether the store has the generation and the pairs of the model.
func isLike(s *Store, m model) bool {
	return s.Turn() == m.turn && samePairs(s.Scan(nil, nil, math.MaxInt), m.pairs.list(math.MaxInt, all))
}

// aScript is some batches for a disk of so many blocks: short ones, long ones, and some that there is no room for. Each of them tells its number, so that no two leave the same pairs.
func aScript(seed int64, blocks, batches int) script {
	r := rand.New(rand.NewSource(seed))
	most := blocks * 64 / 2
	var s script
	for i := range batches {
		l := []api.Put{put("no", strconv.Itoa(i))}
		for range r.Intn(4) {
			k := strconv.Itoa(r.Intn(6))
			switch r.Intn(5) {
			case 0, 1:
				l = append(l, gone(k))
			case 2:
				l = append(l, put(k, long(r.Intn(most))))
			default:
				l = append(l, put(k, strconv.Itoa(i)))
			}
		}
		s = append(s, l)
	}
	return s
}

// P9.4, P9.1 and P9.2

func TestPowerFailures(t *testing.T) {
	for _, blocks := range []int{2, 3, 4, 6, 9, 14} {
		l := aScript(int64(blocks), blocks, 24)
		models, answers := l.models(blocks)
		if last := models[len(l)]; last.turn < 4 || !slices.Contains(answers, api.ErrFull) {
			t.Fatalf("%d blocks: %d generations, answers %d", blocks, last.turn, answers)
		}
		survives(t, make([]byte, blocks*64), l)
	}
}

// There may be anything on the disk that is not a log where one begins.
func TestPowerFailuresOverAnything(t *testing.T) {
	for _, blocks := range []int{4, 9} {
		l := aScript(int64(blocks), blocks, 12)
		survives(t, someBytes(blocks*64), l)
		stale := make([]byte, blocks*64)
		for i := range blocks {
			for at := i*64 + 1; at+30 < i*64+64; at += 22 {
				copy(stale[at:], frame.Encode(api.Frame{Gen: 1 + i%3, Seq: 1 + i%2}))
			}
		}
		survives(t, stale, l)
	}
}

// Of the two calls of an Open that begins a log, the power fails ahead of each.
func TestPowerFailsInOpen(t *testing.T) {
	first := append(frame.Encode(api.Frame{Gen: 1, Data: []byte{0}}), make([]byte, 41)...)
	for _, e := range []struct {
		n       int
		picks   []int
		durable bool
	}{{0, nil, false}, {0, []int{1}, false}, {1, nil, false}, {1, []int{0}, false}, {1, []int{1}, true}} {
		image := someBytes(7 * 64)
		d := of(t, image)
		d.Arm(e.n)
		if s, errno := Open(d); s != nil || errno != api.ErrDown || d.Calls() != e.n {
			t.Fatalf("%v: %v, %d, %d calls", e, s, errno, d.Calls())
		}
		d.Crash(e.picks)
		want := bytes.Clone(image)
		if e.durable {
			copy(want, first)
		}
		if !bytes.Equal(d.Image(), want) {
			t.Fatalf("%v: %x", e, d.Image())
		}
		has(t, "opened again", opens(t, d), 1, pairs{})
		if written := d.Calls() > e.n; written == e.durable {
			t.Errorf("%v: %d calls", e, d.Calls())
		}
	}
	d := fresh(t, 7)
	d.Arm(2) // the last call takes effect, so that Open has its log
	if s, errno := Open(d); errno != api.OK || !s.Up() || s.Commit([]api.Put{put("a", "b")}) != api.ErrDown || s.Up() {
		t.Error(s, errno)
	}
	d.Crash([]int{1})
	has(t, "begun", opens(t, d), 1, pairs{})
}

// The batch that is answered as the power fails is there; the next one finds no power.
func TestPowerFailsWithTheLastCall(t *testing.T) {
	d := fresh(t, 4)
	s := opens(t, d)
	d.Arm(2)
	commits(t, s, put("a", "1"))
	if d.On() || !s.Up() {
		t.Fatal(d.On(), s.Up())
	}
	has(t, "answered", s, 1, pairs{"a": "1"})
	if errno := s.Commit([]api.Put{gone("a")}); errno != api.ErrDown {
		t.Error(errno)
	}
	isDown(t, d, s)
	has(t, "down", s, 1, pairs{"a": "1"})
	d.Crash(nil)
	has(t, "opened again", opens(t, d), 1, pairs{"a": "1"})
}

// Only an answer of the disk lets the store go down: a failure during which it was not asked does not.
func TestPowerFailsBetweenCommits(t *testing.T) {
	d := fresh(t, 4)
	s := opens(t, d)
	commits(t, s, put("a", "1"))
	d.Arm(0)
	if !s.Up() {
		t.Error("down without a Commit")
	}
	commitsNot(t, "no room in either area", d, s, api.ErrFull, put("b", long(128)))
	commitsNot(t, "too long", d, s, api.ErrLong, put("b", long(8193)))
	commitsNot(t, "nothing", d, s, api.OK)
	d.Crash(nil)
	commits(t, s, put("b", "2"))
	has(t, "gone on", s, 1, pairs{"a": "1", "b": "2"})
	has(t, "gone on and opened", opens(t, d), 1, pairs{"a": "1", "b": "2"})
}

// Also a new generation that finds no power lets the store go down, with the pairs and the generation that it had.
func TestPowerFailsInATurn(t *testing.T) {
	l := []api.Put{gone("a"), put("b", long(90)), put("c", "3")}
	for n := range 5 {
		for _, picks := range somePicks() {
			d := fresh(t, 4)
			s := opens(t, d)
			commits(t, s, put("a", "1"))
			before := d.Image()
			d.Arm(n)
			errno := s.Commit(l)
			if n == 4 {
				if errno != api.OK || d.On() {
					t.Fatal(errno)
				}
				has(t, "answered", s, 2, pairs{"b": long(90), "c": "3"})
				break
			}
			if errno != api.ErrDown || d.Calls() != 4+n {
				t.Fatalf("power for %d calls: %d, %d calls", n, errno, d.Calls())
			}
			isDown(t, d, s)
			has(t, "down", s, 1, pairs{"a": "1"})
			d.Crash(picks)
			isDown(t, d, s)
			if !bytes.Equal(d.Image()[:128], before[:128]) {
				t.Error("the older generation was changed")
			}
			again := opens(t, d)
			if n == 3 && len(picks) > 0 && picks[0]%2 != 0 {
				has(t, "turned", again, 2, pairs{"b": long(90), "c": "3"})
			} else {
				has(t, "as it was", again, 1, pairs{"a": "1"})
			}
		}
	}
}

// Many failures, one after the other, in Open, in Append and in new generations: all that was answered is there, and of the rest at most the last batch, whole.
func TestManyFailures(t *testing.T) {
	r := rand.New(rand.NewSource(94))
	for round := range 60 {
		blocks := 2 + r.Intn(30)
		d := of(t, someBytes(blocks*64))
		m := begun(blocks)
		for i, l := range aScript(int64(round), blocks, 60) {
			if r.Intn(2) == 0 {
				d.Arm(r.Intn(2 * blocks))
			}
			m = opensAndCommits(t, d, r, m, l)
			if i%7 == 0 {
				isModel(t, "opened", reopened(t, d, r), m)
			}
		}
	}
}

// reopened returns the store on a disk, however often the power fails meanwhile.
func reopened(t *testing.T, d *disk.Disk, r *rand.Rand) *Store {
	t.Helper()
	for {
		s, errno := Open(d)
		if errno == api.OK {
			return s
		}
		if errno != api.ErrDown {
			t.Fatal(errno)
		}
		d.Crash([]int{r.Intn(2), r.Intn(2), r.Intn(2)})
		d.Arm(1 + r.Intn(3))
	}
}

// opensAndCommits commits a batch to a store that is the model, and returns what it is then.
func opensAndCommits(t *testing.T, d *disk.Disk, r *rand.Rand, m model, l []api.Put) model {
	t.Helper()
	s := reopened(t, d, r)
	isModel(t, "ahead of it", s, m)
	next, want := m.commit(l)
	errno := s.Commit(l)
	if errno != api.ErrDown {
		if errno != want {
			t.Fatal(errno, want)
		}
		isModel(t, "committed", s, next)
		return next
	}
	isModel(t, "down", s, m)
	d.Crash([]int{r.Intn(2), r.Intn(2), r.Intn(2)})
	s = reopened(t, d, r)
	if want == api.OK && isLike(s, next) {
		return next
	}
	isModel(t, "after a failure", s, m)
	return m
}

// Random scripts with power, on disks with more room.
func TestRandomScripts(t *testing.T) {
	for seed := range int64(20) {
		blocks := []int{2, 5, 40, 300, 4096}[seed%5]
		d := fresh(t, blocks)
		s, m := opens(t, d), begun(blocks)
		for i, l := range aScript(seed, min(blocks, 250), 80) {
			next, want := m.commit(l)
			if errno := s.Commit(l); errno != want {
				t.Fatalf("%d, batch %d: %d, not %d", seed, i, errno, want)
			}
			m = next
			isModel(t, "committed", s, m)
			if i%10 == 0 {
				s = opens(t, d)
			}
		}
		isModel(t, "opened again", opens(t, d), m)
	}
}

// Fuzz: bytes as a disk and as batches.
func FuzzStore(f *testing.F) {
	first := frame.Encode(api.Frame{Gen: 1, Data: []byte{0}})
	f.Add([]byte(nil), []byte("abc"))
	f.Add(append(first, frame.Encode(api.Frame{Gen: 1, Seq: 1, Data: []byte{1, 0, 1, 'a', 1, 'b'}})...), []byte("\x00\x30ab\x31cd\xff"))
	f.Add(append(make([]byte, 256), frame.Encode(api.Frame{Gen: maxGen, Data: []byte{1, 1, 1, 'a'}})...), bytes.Repeat([]byte("pq4"), 30))
	f.Fuzz(func(t *testing.T, image, script []byte) {
		blocks := len(image)/64 + 1
		if blocks > 4096 {
			return
		}
		whole := make([]byte, blocks*64)
		copy(whole, image)
		d := of(t, whole)
		s, errno := Open(d)
		if errno != api.OK {
			if s != nil || errno != api.ErrForm && (errno != api.ErrArg || blocks > 1) {
				t.Fatal(s, errno)
			}
			return
		}
		m := pairs{}
		for _, x := range s.Scan(nil, nil, s.Len()) {
			m[string(x.Key)] = string(x.Value)
		}
		for ; len(script) > 2; script = script[3:] {
			l := []api.Put{put(string(script[:1]), long(int(script[1]))), {Key: script[2:3], Gone: script[1]%2 == 0}}
			switch errno := s.Commit(l); errno {
			case api.OK:
				m.apply(l)
			case api.ErrFull:
			default:
				t.Fatal(errno)
			}
		}
		has(t, "committed", s, s.Turn(), m)
		has(t, "opened again", opens(t, d), s.Turn(), m)
	})
}
