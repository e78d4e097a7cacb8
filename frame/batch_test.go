package frame

import (
	"bytes"
	"encoding/hex"
	"math/rand"
	"slices"
	"strings"
	"testing"

	"concierge/api"
)

func put(key, value string) api.Put {
	return api.Put{Key: []byte(key), Value: []byte(value)}
}

func takenAway(key string) api.Put {
	return api.Put{Key: []byte(key), Gone: true}
}

// batchByWords is a batch by the words of the chapter.
func batchByWords(l []api.Put) []byte {
	b := groups(len(l))
	for _, p := range l {
		if p.Gone {
			b = slices.Concat(b, []byte{1}, groups(len(p.Key)), p.Key)
		} else {
			b = slices.Concat(b, []byte{0}, groups(len(p.Key)), p.Key, groups(len(p.Value)), p.Value)
		}
	}
	return b
}

func samePut(a, b api.Put) bool {
	return a.Gone == b.Gone && bytes.Equal(a.Key, b.Key) && bytes.Equal(a.Value, b.Value)
}

func samePuts(a, b []api.Put) bool {
	return slices.EqualFunc(a, b, samePut)
}

// told returns the puts as a batch tells them: without the Values of those that are gone.
func told(l []api.Put) []api.Put {
	out := slices.Clone(l)
	for i := range out {
		if out[i].Gone {
			out[i].Value = nil
		}
	}
	return out
}

// copyOf returns puts that share no memory with l.
func copyOf(l []api.Put) []api.Put {
	out := slices.Clone(l)
	for i := range out {
		out[i].Key = bytes.Clone(l[i].Key)
		out[i].Value = bytes.Clone(l[i].Value)
	}
	return out
}

// words returns all words of up to n of the letters.
func words(letters []byte, n int) [][]byte {
	all := [][]byte{{}}
	last := all
	for range n {
		var next [][]byte
		for _, w := range last {
			for _, c := range letters {
				next = append(next, append(bytes.Clone(w), c))
			}
		}
		all = append(all, next...)
		last = next
	}
	return all
}

// somePuts returns random puts.
func somePuts(r *rand.Rand) []api.Put {
	l := make([]api.Put, r.Intn(6))
	for i := range l {
		l[i] = api.Put{Key: make([]byte, r.Intn(200)>>r.Intn(8)), Value: make([]byte, r.Intn(300)>>r.Intn(8)), Gone: r.Intn(3) == 0}
		r.Read(l[i].Key)
		r.Read(l[i].Value)
	}
	return l
}

// isNoBatch fails unless there are no puts whose Batch is b.
func isNoBatch(t *testing.T, what string, b []byte) {
	t.Helper()
	if l, errno := Puts(b); errno != api.ErrForm || len(l) != 0 {
		t.Errorf("%s: %d puts, %d", what, len(l), errno)
	}
}

// P6.3

var someBatches = []struct {
	b string
	l []api.Put
}{
	{"01 00 01 61 01 62", []api.Put{put("a", "b")}}, // the chapter's example
	{"00", nil},
	{"01 00 00 00", []api.Put{put("", "")}},
	{"01 01 00", []api.Put{takenAway("")}},
	{"01 00 01 61 00", []api.Put{put("a", "")}},
	{"01 00 00 01 62", []api.Put{put("", "b")}},
	{"01 01 01 61", []api.Put{takenAway("a")}},
	{"02 00 01 61 01 62 01 02 63 64", []api.Put{put("a", "b"), takenAway("cd")}},
	{"02 01 02 63 64 00 01 61 01 62", []api.Put{takenAway("cd"), put("a", "b")}},
	{"03 00 01 61 01 62 00 01 61 01 63 01 01 61", []api.Put{put("a", "b"), put("a", "c"), takenAway("a")}}, // the same key again
	{"01 00 03 00 01 f5 02 ff 80", []api.Put{put("\x00\x01\xf5", "\xff\x80")}},
	{"01 00 ac 02" + strings.Repeat("78", 300) + "80 01" + strings.Repeat("79", 128), []api.Put{put(strings.Repeat("x", 300), strings.Repeat("y", 128))}},
	{"80 01" + strings.Repeat("01 01 61", 128), slices.Repeat([]api.Put{takenAway("a")}, 128)},
}

func TestBatchExamples(t *testing.T) {
	for _, e := range someBatches {
		if b := Batch(e.l); !bytes.Equal(b, unhex(t, e.b)) {
			t.Errorf("%s: % x", e.b, b)
		}
	}
	if b := Batch([]api.Put{}); !bytes.Equal(b, []byte{0}) {
		t.Errorf("% x", b)
	}
	if b := Batch([]api.Put{{}, {Gone: true}}); !bytes.Equal(b, []byte{2, 0, 0, 0, 1, 0}) {
		t.Errorf("nil: % x", b)
	}
}

func TestPutsExamples(t *testing.T) {
	for _, e := range someBatches {
		if l, errno := Puts(unhex(t, e.b)); errno != api.OK || !samePuts(l, e.l) {
			t.Errorf("%s: %v, %d", e.b, l, errno)
		}
	}
}

func TestBatchLeavesOutTheValueOfWhatIsGone(t *testing.T) {
	l := []api.Put{{Key: []byte("a"), Value: []byte("b"), Gone: true}, put("c", "d")}
	b := Batch(l)
	if !bytes.Equal(b, unhex(t, "02 01 01 61 00 01 63 01 64")) {
		t.Errorf("% x", b)
	}
	if got, errno := Puts(b); errno != api.OK || !samePuts(got, []api.Put{takenAway("a"), put("c", "d")}) {
		t.Errorf("%v, %d", got, errno)
	}
}

func TestPutsOfNoBatch(t *testing.T) {
	wrong := []string{
		"",                                 // no number of puts
		"80",                               // one that does not end
		"80 00",                            // 0 in two groups
		"81 00 01 00",                      // 1 in two groups
		"80 80 80 80 80 80 80 80 80 01",    // ten groups
		"01",                               // no put
		"02 00 01 61 01 62",                // one put of two
		"03 01 00 01 00",                   // two puts of three
		"7f 01 00",                         // many more than there are
		"ff ff ff ff ff ff ff ff 7f 01 00", // the same, with the greatest number
		"01 02 01 61 01 62",                // a byte beside 1
		"01 ff 01 61 01 62",                // another byte
		"02 01 00 02 00 00",                // a byte beside 1 in the second put
		"01 00",                            // no key
		"01 01",                            // the same of one that is gone
		"01 00 80",                         // a number that does not end
		"01 00 80 00 00",                   // 0 in two groups
		"01 00 81 00 61 00",                // 1 in two groups
		"01 00 80 80 80 80 80 80 80 80 80 01 61 00", // ten groups
		"01 00 02 61",                                  // a key that is cut off
		"01 01 02 61",                                  // the same of one that is gone
		"01 00 ff ff ff ff ff ff ff ff 7f 61 00",       // a key of the greatest number of bytes
		"01 01 ff ff ff ff ff ff ff ff 7f",             // the same of one that is gone
		"01 00 01 61",                                  // no value
		"01 00 01 61 80",                               // a number that does not end
		"01 00 01 61 80 00",                            // 0 in two groups
		"01 00 01 61 81 00 62",                         // 1 in two groups
		"01 00 01 61 02 62",                            // a value that is cut off
		"01 00 01 61 ff ff ff ff ff ff ff ff 7f 62",    // a value of the greatest number of bytes
		"01 00 01 61 80 80 80 80 80 80 80 80 80 01 62", // ten groups
		"00 00",                // a byte at the end
		"00 01",                // the same
		"01 00 01 61 01 62 00", // the same behind a put
		"01 01 01 61 00",       // the same: one that is gone has no value
		"01 01 01 61 01 62",    // the same
		"02 01 00 01 00 ff",    // the same behind two
	}
	for _, s := range wrong {
		isNoBatch(t, s, unhex(t, s))
	}
	isNoBatch(t, "nil", nil)
}

// Of the first byte of a put, only 0 and 1 are some.
func TestPutsOfEachFirstByte(t *testing.T) {
	for c := range 256 {
		l, errno := Puts([]byte{1, byte(c), 1, 'a', 1, 'b'})
		gone, errnoGone := Puts([]byte{1, byte(c), 1, 'a'})
		switch {
		case c == 0 && errno == api.OK && samePuts(l, []api.Put{put("a", "b")}) && errnoGone == api.ErrForm && len(gone) == 0:
		case c == 1 && errno == api.ErrForm && len(l) == 0 && errnoGone == api.OK && samePuts(gone, []api.Put{takenAway("a")}):
		case c > 1 && errno == api.ErrForm && len(l) == 0 && errnoGone == api.ErrForm && len(gone) == 0:
		default:
			t.Errorf("%d: %v, %d and %v, %d", c, l, errno, gone, errnoGone)
		}
	}
}

// No beginning of a batch is one, and none with bytes behind it.
func TestPutsOfBeginnings(t *testing.T) {
	for _, e := range someBatches {
		b := unhex(t, e.b)
		for k := range b {
			isNoBatch(t, "cut off", b[:k])
		}
		for c := range 256 {
			isNoBatch(t, "a byte at the end", append(bytes.Clone(b), byte(c)))
		}
		isNoBatch(t, "twice", slices.Concat(b, b))
	}
}

// Of all short bytes of some letters, Puts has the puts whose Batch they are, and ErrForm for all that are the Batch of none.
func TestPutsOfAllShortBytes(t *testing.T) {
	letters := []byte{0, 1, 2, 128}
	const most = 6
	texts := words(letters, most-2)
	var puts []api.Put
	for _, key := range texts {
		puts = append(puts, api.Put{Key: key, Gone: true})
		for _, value := range texts {
			if len(key)+len(value) <= most-4 {
				puts = append(puts, api.Put{Key: key, Value: value})
			}
		}
	}
	batches := map[string][]api.Put{string(batchByWords(nil)): nil}
	for _, p := range puts {
		batches[string(batchByWords([]api.Put{p}))] = []api.Put{p}
		for _, q := range puts {
			if b := batchByWords([]api.Put{p, q}); len(b) <= most {
				batches[string(b)] = []api.Put{p, q}
			}
		}
	}
	found := 0
	for _, b := range words(letters, most) {
		before := bytes.Clone(b)
		l, errno := Puts(b)
		if !bytes.Equal(b, before) {
			t.Fatalf("% x was changed", before)
		}
		if want, ok := batches[string(b)]; ok {
			found++
			if errno != api.OK || !samePuts(l, want) {
				t.Errorf("% x: %v, %d", b, l, errno)
			}
		} else if errno != api.ErrForm || len(l) != 0 {
			t.Errorf("% x: %v, %d", b, l, errno)
		}
	}
	// None of no put; of one, 21 that are gone and 57 that are not; of two, 9 where both are gone and 2 where one is.
	if found != 1+21+57+9+2 {
		t.Errorf("%d batches", found)
	}
}

// R3: the arguments are left as they are, also behind their ends, and the answers are the caller's.
func TestBatchSharesNothing(t *testing.T) {
	room := []byte("abcdefgh")
	l := []api.Put{{Key: room[:2], Value: room[2:3]}, {Key: room[4:5], Value: room[6:7], Gone: true}}
	before := copyOf(l)
	b := Batch(l)
	again := Batch(l)
	if string(room) != "abcdefgh" || !samePuts(l, before) {
		t.Errorf("an argument was changed: %v, %v", room, l)
	}
	clear(b[:cap(b)])
	clear(room)
	if !bytes.Equal(again, batchByWords(before)) {
		t.Errorf("the answer follows an argument or another answer: % x", again)
	}
}

// R3: the puts share no memory with the bytes, nor with one another, also where one is appended to.
func TestPutsShareNothing(t *testing.T) {
	want := []api.Put{put("abc", "def"), put("", "g"), takenAway("hij"), put("k", ""), put("lmnopqr", "stuvwxyz")}
	b := batchByWords(want)
	before := bytes.Clone(b)
	l, errno := Puts(b)
	if errno != api.OK || !samePuts(l, want) || !bytes.Equal(b, before) {
		t.Fatalf("%v, %d", l, errno)
	}
	clear(b)
	if !samePuts(l, want) {
		t.Errorf("the puts follow the bytes: %v", l)
	}
	for i := range 2 * len(want) {
		got, _ := Puts(before)
		part := &got[i/2].Key
		if i%2 == 1 {
			part = &got[i/2].Value
		}
		clear((*part)[:cap(*part)])
		_ = append(*part, "yyyyyyyyyyyy"...)
		*part = nil
		for k := range 2 * len(want) {
			is, was := got[k/2].Key, want[k/2].Key
			if k%2 == 1 {
				is, was = got[k/2].Value, want[k/2].Value
			}
			if k != i && !bytes.Equal(is, was) {
				t.Errorf("part %d follows part %d: %v", k, i, is)
			}
		}
	}
	if again, _ := Puts(before); !samePuts(again, want) || !samePuts(l, want) {
		t.Error("two answers share memory, or the bytes follow one")
	}
}

// P6.4

func TestPutsInvertBatch(t *testing.T) {
	r := rand.New(rand.NewSource(64))
	for range 3000 {
		l := somePuts(r)
		b := Batch(l)
		if !bytes.Equal(b, batchByWords(l)) {
			t.Errorf("%v: % x", l, b)
		}
		if got, errno := Puts(b); errno != api.OK || !samePuts(got, told(l)) {
			t.Errorf("%v: %v, %d", l, got, errno)
		}
		f := api.Frame{Gen: 1, Seq: len(l), Data: b}
		if got, size := Decode(append(Encode(f), b...)); size != Size(len(b)) || !sameFrame(got, f) {
			t.Errorf("%v: %v, size %d", l, got, size)
		}
	}
}

func TestLongBatches(t *testing.T) {
	long := []api.Put{put(strings.Repeat("k", 1<<20), strings.Repeat("v", 1<<20)), takenAway(strings.Repeat("g", 1<<21))}
	if got, errno := Puts(Batch(long)); errno != api.OK || !samePuts(got, long) {
		t.Error(errno)
	}
	many := make([]api.Put, 1<<18)
	for i := range many {
		many[i] = api.Put{Key: []byte{byte(i), byte(i >> 8)}, Gone: i%3 == 0}
	}
	b := Batch(many)
	if got, errno := Puts(b); errno != api.OK || !samePuts(got, many) {
		t.Error(errno)
	}
	isNoBatch(t, "cut off", b[:len(b)-1])
}

// P1: random bytes, and frames and batches of which some bytes are others, are read or are none, and what is read is what was there.
func TestAnyBytes(t *testing.T) {
	r := rand.New(rand.NewSource(61))
	for i := range 20000 {
		b := make([]byte, r.Intn(60))
		r.Read(b)
		switch i % 4 {
		case 1:
			b = code(api.Frame{Gen: r.Intn(4), Seq: r.Intn(4), Data: b})
		case 2:
			b = batchByWords(somePuts(r))
		case 3:
			b = append([]byte{245}, b...)
		}
		for range r.Intn(4) {
			if n := len(b); n > 0 {
				b[r.Intn(n)] = []byte{0, 1, 2, 127, 128, 245, 255, byte(r.Intn(256))}[r.Intn(8)]
			}
		}
		checkBytes(t, b)
	}
}

// checkBytes fails unless what is read from b is what b begins with, or is.
func checkBytes(t *testing.T, b []byte) {
	t.Helper()
	before := bytes.Clone(b)
	f, size := Decode(b)
	l, errno := Puts(b)
	if !bytes.Equal(b, before) {
		t.Fatalf("%s was changed", hex.EncodeToString(before))
	}
	if size == 0 {
		isNone(t, hex.EncodeToString(b), b)
	} else if size != Size(len(f.Data)) || !bytes.HasPrefix(b, code(f)) || f.Gen < 0 || f.Gen > maxGen || f.Seq < 0 || f.Seq > maxGen {
		t.Errorf("%x: %v, size %d", b, f, size)
	}
	if errno != api.OK {
		isNoBatch(t, hex.EncodeToString(b), b)
	} else if !bytes.Equal(batchByWords(l), b) || !samePuts(l, told(l)) {
		t.Errorf("%x: %v", b, l)
	}
}

// Fuzz: any bytes as a frame, as a batch and as what is in one.
func FuzzFrame(f *testing.F) {
	f.Add([]byte(nil), []byte(nil), 0, 0)
	f.Add([]byte{0}, []byte("a"), 1, 0)
	f.Add(code(api.Frame{Gen: 1, Seq: 2, Data: []byte("abc")}), []byte{245}, maxGen, maxGen)
	f.Add([]byte{2, 0, 1, 'a', 1, 'b', 1, 1, 'c'}, []byte{0, 1, 128}, -1, 5)
	f.Add([]byte{255, 255, 255, 255, 255, 255, 255, 255, 127}, []byte{255}, 5, maxGen+1)
	f.Fuzz(func(t *testing.T, a, b []byte, gen, seq int) {
		checkBytes(t, a)
		checkBytes(t, append([]byte{245}, a...))
		frame := api.Frame{Gen: gen, Seq: seq, Data: a}
		if may := gen >= 0 && gen <= maxGen && seq >= 0 && seq <= maxGen && len(a) <= 65536; !may {
			if code := Encode(frame); len(code) != 0 {
				t.Errorf("%d, %d: % x", gen, seq, code)
			}
		} else if got, size := Decode(append(Encode(frame), b...)); size != Size(len(a)) || !sameFrame(got, frame) {
			t.Errorf("%v: %v, size %d", frame, got, size)
		}
		l := []api.Put{{Key: a, Value: b}, {Key: b, Value: a, Gone: true}, {Key: nil, Value: a}}
		if got, errno := Puts(Batch(l)); errno != api.OK || !samePuts(got, told(l)) {
			t.Errorf("%v: %v, %d", l, got, errno)
		}
	})
}
