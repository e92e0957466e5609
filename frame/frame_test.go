package frame_test

import (
	"bytes"
	"encoding/hex"
	"math"
	"math/rand"
	"slices"
	"strings"
	"testing"

	"verger/api"
	"verger/frame"
)

// unhex reads bytes written as hexadecimal digits, with blanks between.
func unhex(t *testing.T, s string) []byte {
	t.Helper()
	b, err := hex.DecodeString(strings.ReplaceAll(s, " ", ""))
	if err != nil {
		t.Fatal(err)
	}
	return b
}

// result is what became of a stream: its messages, its end, and what waits.
type result struct {
	messages [][]byte
	err      api.Errno
	waiting  int
	over     bool
}

func same(a, b result) bool {
	return slices.EqualFunc(a.messages, b.messages, bytes.Equal) && a.err == b.err && a.waiting == b.waiting && a.over == b.over
}

// model cuts a stream that is there as a whole, by the chapter's words.
func model(stream []byte, most int) result {
	most = min(max(most, 2), api.MaxPDU)
	var r result
	fail := func(err api.Errno) result {
		return result{messages: r.messages, err: err, over: true}
	}
	for len(stream) > 0 {
		r.waiting = len(stream)
		if stream[0] != 0x30 {
			return fail(api.ErrForm)
		}
		if len(stream) == 1 {
			return r
		}
		header, length := 2, int(stream[1])
		if stream[1] >= 0x80 {
			k := int(stream[1]) - 0x80
			if k < 1 || k > 4 {
				return fail(api.ErrForm)
			}
			header = 2 + k
			if len(stream) < header {
				return r
			}
			length = 0
			for _, b := range stream[2:header] {
				length = length*256 + int(b)
			}
		}
		if header+length > most {
			return fail(api.ErrLong)
		}
		if len(stream) < header+length {
			return r
		}
		r.messages = append(r.messages, stream[:header+length])
		stream = stream[header+length:]
		r.waiting = 0
	}
	return r
}

// feedAll feeds a cutter the pieces, till the stream ends, and holds every
// call to R5 and to P2.2.
func feedAll(t *testing.T, c *frame.Cutter, pieces ...[]byte) result {
	t.Helper()
	var r result
	came := 0
	for _, piece := range pieces {
		if r.over {
			if messages, err := c.Feed(piece); len(messages) != 0 || err != api.ErrOver {
				t.Fatalf("Feed(%x) of a cutter that is over: %x, %v", piece, messages, err)
			}
		} else {
			messages, err := c.Feed(piece)
			r.messages = append(r.messages, messages...)
			r.err, r.over = err, err != api.OK
			came += len(piece)
			for _, m := range messages {
				came -= len(m)
			}
		}
		r.waiting = came
		if r.over {
			r.waiting = 0
		}
		if c.Waiting() != r.waiting || c.Over() != r.over {
			t.Fatalf("after Feed(%x): Waiting %d, not %d; Over %t, not %t", piece, c.Waiting(), r.waiting, c.Over(), r.over)
		}
	}
	return r
}

// split cuts the stream at the places.
func split(stream []byte, places ...int) [][]byte {
	var pieces [][]byte
	from := 0
	for _, to := range append(places, len(stream)) {
		pieces = append(pieces, stream[from:to])
		from = to
	}
	return pieces
}

// byBytes cuts the stream into single bytes.
func byBytes(stream []byte) [][]byte {
	var pieces [][]byte
	for i := range stream {
		pieces = append(pieces, stream[i:i+1])
	}
	return pieces
}

// message makes one of n bytes in all, from 2 on.
func message(n int) []byte {
	m := make([]byte, n)
	if n <= 2+127 {
		copy(m, []byte{0x30, byte(n - 2)})
	} else {
		copy(m, []byte{0x30, 0x82, byte((n - 4) >> 8), byte(n - 4)})
	}
	return m
}

// P2.1, P2.2: the chapter's example.
func TestExample(t *testing.T) {
	c := frame.New(100)
	if messages, err := c.Feed(unhex(t, "30 03 02")); len(messages) != 0 || err != api.OK || c.Waiting() != 3 {
		t.Errorf("Feed(30 03 02): %x, %v, waiting %d", messages, err, c.Waiting())
	}
	messages, err := c.Feed(unhex(t, "01 05 30"))
	if len(messages) != 1 || !bytes.Equal(messages[0], unhex(t, "30 03 02 01 05")) || err != api.OK || c.Waiting() != 1 {
		t.Errorf("Feed(01 05 30): %x, %v, waiting %d", messages, err, c.Waiting())
	}
	if messages, err := frame.New(100).Feed([]byte{0x31}); len(messages) != 0 || err != api.ErrForm {
		t.Errorf("Feed(31): %x, %v", messages, err)
	}
}

// P2.1: what comes out of a piece: whole messages in order with all their
// bytes, and where the stream ends.
func TestFeed(t *testing.T) {
	for _, c := range []struct {
		most     int
		stream   string
		messages []string
		err      api.Errno
	}{
		{100, "", nil, api.OK},
		{100, "30", nil, api.OK},
		{100, "30 00", []string{"30 00"}, api.OK},
		{100, "30 00 30 00", []string{"30 00", "30 00"}, api.OK},
		{100, "30 02 01 02 30 01 09", []string{"30 02 01 02", "30 01 09"}, api.OK},
		{100, "30 02 01 02 30 02 01", []string{"30 02 01 02"}, api.OK},
		// A content is any bytes, also such as begin no field.
		{100, "30 02 30 00 30 03 31 80 ff", []string{"30 02 30 00", "30 03 31 80 ff"}, api.OK},
		// A length needn't be the shortest.
		{100, "30 81 01 07", []string{"30 81 01 07"}, api.OK},
		{100, "30 82 00 01 07", []string{"30 82 00 01 07"}, api.OK},
		{100, "30 83 00 00 01 07", []string{"30 83 00 00 01 07"}, api.OK},
		{100, "30 84 00 00 00 01 07", []string{"30 84 00 00 00 01 07"}, api.OK},
		{100, "30 84 00 00 00 00 30 81 00", []string{"30 84 00 00 00 00", "30 81 00"}, api.OK},
		// Where a message should begin, there is none.
		{100, "00", nil, api.ErrForm},
		{100, "30 00 04 00", []string{"30 00"}, api.ErrForm},
		{100, "30 00 30 01 05 31 30 00", []string{"30 00", "30 01 05"}, api.ErrForm},
		// A length is none.
		{100, "30 80", nil, api.ErrForm},
		{100, "30 85 00 00 00 00 00", nil, api.ErrForm},
		{100, "30 00 30 ff", []string{"30 00"}, api.ErrForm},
		// A length says too much, at once when it is whole.
		{100, "30 62", nil, api.OK},
		{100, "30 63", nil, api.ErrLong},
		{100, "30 81 61", nil, api.OK},
		{100, "30 81 62", nil, api.ErrLong},
		{100, "30 82 00 60", nil, api.OK},
		{100, "30 82 00 61", nil, api.ErrLong},
		{100, "30 84 00 00 00 5e", nil, api.OK},
		{100, "30 84 00 00 00 5f", nil, api.ErrLong},
		{100, "30 84 ff ff ff", nil, api.OK},
		{100, "30 84 ff ff ff ff", nil, api.ErrLong},
		{100, "30 84 80 00 00 00", nil, api.ErrLong},
		{100, "30 84 7f ff ff ff", nil, api.ErrLong},
		{100, "30 01 05 30 63 31", []string{"30 01 05"}, api.ErrLong},
		// A message's own length bytes may be too long already.
		{5, "30 84 00 00 00", nil, api.OK},
		{5, "30 84 00 00 00 00", nil, api.ErrLong},
		{6, "30 84 00 00 00 00", []string{"30 84 00 00 00 00"}, api.OK},
		// The first fault counts.
		{100, "30 7f 31", nil, api.ErrLong},
		{100, "31 30 7f", nil, api.ErrForm},
	} {
		var want [][]byte
		for _, m := range c.messages {
			want = append(want, unhex(t, m))
		}
		messages, err := frame.New(c.most).Feed(unhex(t, c.stream))
		if !slices.EqualFunc(messages, want, bytes.Equal) || err != c.err {
			t.Errorf("New(%d).Feed(%s): %x, %v", c.most, c.stream, messages, err)
		}
	}
}

// P2.1: no byte but 30 begins a message, at the stream's beginning and behind
// a message; and of the bytes behind it just those begin a length that
// layer 1 says.
func TestFeedFirstBytes(t *testing.T) {
	for i := 0; i < 256; i++ {
		want := api.OK
		if i != 0x30 {
			want = api.ErrForm
		}
		if _, err := frame.New(200).Feed([]byte{byte(i)}); err != want {
			t.Errorf("Feed(%02x): %v", i, err)
		}
		if messages, err := frame.New(200).Feed([]byte{0x30, 0, byte(i)}); len(messages) != 1 || err != want {
			t.Errorf("Feed(30 00 %02x): %x, %v", i, messages, err)
		}
		want = api.OK
		if i == 0x80 || i > 0x84 {
			want = api.ErrForm
		}
		if _, err := frame.New(200).Feed([]byte{0x30, byte(i)}); err != want {
			t.Errorf("Feed(30 %02x): %v", i, err)
		}
	}
}

// P2.1: the most is what New was told, but at least 2 and at most MaxPDU; the
// zero Cutter has MaxPDU.
func TestMost(t *testing.T) {
	for _, c := range []struct{ told, most int }{
		{math.MinInt, 2}, {-1, 2}, {0, 2}, {1, 2}, {2, 2}, {3, 3}, {4, 4}, {128, 128}, {129, 129},
		{300, 300}, {api.MaxPDU - 1, api.MaxPDU - 1}, {api.MaxPDU, api.MaxPDU},
		{api.MaxPDU + 1, api.MaxPDU}, {1 << 32, api.MaxPDU}, {math.MaxInt, api.MaxPDU},
	} {
		checkMost(t, frame.New(c.told), frame.New(c.told), c.most)
	}
	checkMost(t, new(frame.Cutter), &frame.Cutter{}, api.MaxPDU)
}

// checkMost holds two cutters to taking messages of most bytes, and none of
// one more.
func checkMost(t *testing.T, c, d *frame.Cutter, most int) {
	t.Helper()
	m := message(most)
	for range 2 {
		if messages, err := c.Feed(m); len(messages) != 1 || !bytes.Equal(messages[0], m) || err != api.OK {
			t.Errorf("a message of %d bytes: %d messages, %v", most, len(messages), err)
		}
	}
	longer := message(most + 1)
	if messages, err := c.Feed(append(m, longer...)); len(messages) != 1 || err != api.ErrLong {
		t.Errorf("a message of %d bytes: %d messages, %v", most+1, len(messages), err)
	}
	if r := feedAll(t, d, byBytes(longer)...); len(r.messages) != 0 || r.err != api.ErrLong {
		t.Errorf("a message of %d bytes: %d messages, %v", most+1, len(r.messages), r.err)
	}
}

// P2.1, P2.2: a cutter that is over stays so, whatever comes.
func TestOver(t *testing.T) {
	for _, end := range []string{"31", "30 80", "30 85", "30 09", "30 82 01 00", "30 84 ff ff ff ff", "30 01 05 00", "30 01 05 30 09 01"} {
		c := frame.New(10)
		if _, err := c.Feed(unhex(t, end)); err == api.OK {
			t.Errorf("Feed(%s): OK", end)
		}
		for _, piece := range []string{"", "30", "30 00", "31", "30 80", "00 01 02 03"} {
			if messages, err := c.Feed(unhex(t, piece)); len(messages) != 0 || err != api.ErrOver {
				t.Errorf("Feed(%s) behind %s: %x, %v", piece, end, messages, err)
			}
			if c.Waiting() != 0 || !c.Over() {
				t.Errorf("behind %s: Waiting %d, Over %t", end, c.Waiting(), c.Over())
			}
		}
	}
}

// P2.2: how many bytes wait, after each byte.
func TestWaiting(t *testing.T) {
	c := frame.New(10)
	if c.Waiting() != 0 || c.Over() {
		t.Errorf("at first: Waiting %d, Over %t", c.Waiting(), c.Over())
	}
	stream := unhex(t, "30 02 01 02 30 00 30 82 00 01 07 30 84 00 00 00 05")
	for i, want := range []int{1, 2, 3, 0, 1, 0, 1, 2, 3, 4, 0, 1, 2, 3, 4, 5, 0} {
		c.Feed(stream[i : i+1])
		if c.Waiting() != want || c.Over() != (i == len(stream)-1) {
			t.Errorf("after %d bytes: Waiting %d, Over %t", i+1, c.Waiting(), c.Over())
		}
	}
}

// P2.1, P2.2: a piece of no bytes changes nothing, wherever it comes.
func TestNothing(t *testing.T) {
	stream := unhex(t, "30 82 00 02 01 02")
	for at := range stream {
		c := frame.New(10)
		c.Feed(stream[:at])
		for _, piece := range [][]byte{nil, {}} {
			if messages, err := c.Feed(piece); len(messages) != 0 || err != api.OK || c.Waiting() != at || c.Over() {
				t.Errorf("behind %d bytes: %x, %v, waiting %d, over %t", at, messages, err, c.Waiting(), c.Over())
			}
		}
		if messages, _ := c.Feed(stream[at:]); len(messages) != 1 || !bytes.Equal(messages[0], stream) {
			t.Errorf("behind %d bytes, then: %x", at, messages)
		}
	}
}

// P2.3: every short stream of bytes at the edges, cut at every one or two
// places, and into single bytes with nothing between.
func TestEveryCut(t *testing.T) {
	letters := []byte{0x30, 0x00, 0x01, 0x02, 0x03, 0x80, 0x81, 0x82, 0x84}
	var grow func(stream []byte)
	grow = func(stream []byte) {
		want := model(stream, 6)
		for i := 0; i <= len(stream); i++ {
			for j := i; j <= len(stream); j++ {
				if r := feedAll(t, frame.New(6), split(stream, i, j)...); !same(r, want) {
					t.Fatalf("%x cut at %d and %d: %v, not %v", stream, i, j, r, want)
				}
			}
		}
		if r := feedAll(t, frame.New(6), byBytes(stream)...); !same(r, want) {
			t.Fatalf("%x cut into bytes: %v, not %v", stream, r, want)
		}
		if len(stream) == 5 || want.over && len(stream) == 3 {
			return
		}
		for _, b := range letters {
			grow(append(slices.Clip(stream), b))
		}
	}
	grow(nil)
}

// randomStream makes one of messages with lengths of all kinds, and often of
// a fault, or of a part of a message, behind them.
func randomStream(r *rand.Rand, most int) []byte {
	var stream []byte
	for range r.Intn(8) {
		size := r.Intn(5)
		content := make([]byte, r.Intn(max(most-size-1, 1)))
		r.Read(content)
		if size == 0 && len(content) > 127 || size == 1 && len(content) > 255 {
			size = 2
		}
		stream = append(stream, 0x30)
		if size == 0 {
			stream = append(stream, byte(len(content)))
		} else {
			stream = append(stream, byte(0x80+size))
			for i := size - 1; i >= 0; i-- {
				stream = append(stream, byte(len(content)>>(8*i)))
			}
		}
		stream = append(stream, content...)
	}
	switch r.Intn(4) {
	case 0:
		stream = append(stream, byte(r.Intn(256)), byte(r.Intn(256)), 0x30)
	case 1:
		stream = append(stream, 0x30, byte(0x80+r.Intn(6)), byte(r.Intn(256)), byte(r.Intn(256)), byte(r.Intn(256)))
	case 2:
		stream = stream[:len(stream)-r.Intn(len(stream)+1)]
	}
	return stream
}

// P2.3: long streams, cut anywhere.
func TestRandomCuts(t *testing.T) {
	r := rand.New(rand.NewSource(2))
	for range 3000 {
		most := []int{2, 9, 140, 300, 3000, api.MaxPDU}[r.Intn(6)]
		stream := randomStream(r, most)
		want := model(stream, most)
		for range 4 {
			places := make([]int, r.Intn(12))
			for i := range places {
				places[i] = r.Intn(len(stream) + 1)
			}
			slices.Sort(places)
			if got := feedAll(t, frame.New(most), split(stream, places...)...); !same(got, want) {
				t.Fatalf("most %d, %x cut at %v: %x %v %d, not %x %v %d", most, stream, places, got.messages, got.err, got.waiting, want.messages, want.err, want.waiting)
			}
		}
	}
}

// P2.3: many of the longest messages, byte by byte: each call costs what its
// piece does, not what waits.
func TestByBytes(t *testing.T) {
	m := message(api.MaxPDU)
	for i := range m[4:] {
		m[4+i] = byte(i * 7)
	}
	var c frame.Cutter
	count := 0
	for range 64 {
		for i := range m {
			messages, err := c.Feed(m[i : i+1])
			if err != api.OK || len(messages) != 0 && !bytes.Equal(messages[0], m) {
				t.Fatalf("byte %d: %d messages, %v", i, len(messages), err)
			}
			count += len(messages)
		}
	}
	if count != 64 || c.Waiting() != 0 {
		t.Errorf("%d messages, waiting %d", count, c.Waiting())
	}
}

// R1: no cutter answers ErrArg, and zeros.
func TestNil(t *testing.T) {
	var c *frame.Cutter
	for _, piece := range [][]byte{nil, {0x30, 0x00}, {0x31}} {
		if messages, err := c.Feed(piece); messages != nil || err != api.ErrArg {
			t.Errorf("Feed(%x): %x, %v", piece, messages, err)
		}
	}
	if c.Waiting() != 0 || c.Over() {
		t.Errorf("Waiting %d, Over %t", c.Waiting(), c.Over())
	}
}

// R3: a piece is left as it is, its spare room too, and isn't kept.
func TestPieceLeft(t *testing.T) {
	stream := unhex(t, "30 03 02 01 05 30 02 0a 0b 30 01 31")
	for at := range stream {
		c := frame.New(100)
		room := append(bytes.Clone(stream[:at]), bytes.Repeat([]byte{0xee}, 20)...)
		before := bytes.Clone(room)
		messages, err := c.Feed(room[:at])
		if err != api.OK || !bytes.Equal(room, before) {
			t.Fatalf("Feed of %d bytes: %v, %x", at, err, room)
		}
		for i := range room {
			room[i] = 0xdd
		}
		more, _ := c.Feed(stream[at:])
		want := model(stream, 100).messages
		if !slices.EqualFunc(append(messages, more...), want, bytes.Equal) {
			t.Errorf("cut at %d, the first piece changed: %x", at, append(messages, more...))
		}
	}
}

// R3: messages are new memory, and share none, their spare room neither.
func TestMessagesNew(t *testing.T) {
	c := frame.New(100)
	piece := unhex(t, "30 03 02 01 05 30 02 0a 0b 30 05 41 42")
	before := bytes.Clone(piece)
	messages, _ := c.Feed(piece)
	for i := range messages {
		want := slices.Clone(messages)
		for j := range want {
			want[j] = bytes.Clone(messages[j])
		}
		room := messages[i][:cap(messages[i])]
		for k := range room {
			room[k] = 0xdd
		}
		want[i] = messages[i]
		if !slices.EqualFunc(messages, want, bytes.Equal) {
			t.Errorf("message %d changed: %x", i, messages)
		}
	}
	clear(messages[:cap(messages)])
	if !bytes.Equal(piece, before) {
		t.Errorf("the piece is now %x", piece)
	}
	messages, err := c.Feed(unhex(t, "43 44 45"))
	if len(messages) != 1 || !bytes.Equal(messages[0], unhex(t, "30 05 41 42 43 44 45")) || err != api.OK {
		t.Errorf("then: %x, %v", messages, err)
	}
}

// R2: an answer stays as it is while the cutter goes on.
func TestMessagesStay(t *testing.T) {
	c := frame.New(100)
	first, _ := c.Feed(unhex(t, "30 02 01 02 30 02"))
	second, _ := c.Feed(unhex(t, "03 04 30 02 05 06 30"))
	c.Feed(unhex(t, "02 07 08 31"))
	if !slices.EqualFunc(first, [][]byte{unhex(t, "30 02 01 02")}, bytes.Equal) ||
		!slices.EqualFunc(second, [][]byte{unhex(t, "30 02 03 04"), unhex(t, "30 02 05 06")}, bytes.Equal) {
		t.Errorf("%x, %x", first, second)
	}
}

// R2: cutters share nothing, also where one was made by copying another.
func TestCuttersApart(t *testing.T) {
	var c frame.Cutter
	c.Feed(unhex(t, "30 82 00 04 01"))
	d := c
	c.Feed(unhex(t, "02 03"))
	d.Feed(unhex(t, "0a 0b"))
	e := frame.New(3)
	if _, err := e.Feed(unhex(t, "30 02")); err != api.ErrLong {
		t.Errorf("another cutter: %v", err)
	}
	first, _ := c.Feed([]byte{0x04})
	second, _ := d.Feed([]byte{0x0c})
	if len(first) != 1 || !bytes.Equal(first[0], unhex(t, "30 82 00 04 01 02 03 04")) ||
		len(second) != 1 || !bytes.Equal(second[0], unhex(t, "30 82 00 04 01 0a 0b 0c")) {
		t.Errorf("%x, %x", first, second)
	}
}
