package msg_test

import (
	"bytes"
	"slices"
	"strings"
	"testing"

	"verger/api"
	"verger/filter"
	"verger/msg"
)

// holdNone holds Decode to answer an error, and no message beside it (R5).
func holdNone(t *testing.T, b []byte, want api.Errno) {
	t.Helper()
	if got, err := msg.Decode(b); !msg.Same(got, msg.Message{}) || err != want {
		t.Errorf("Decode(%.80x): %s, %v; not %v", b, show(got), err, want)
	}
}

// P8.1: a piece of a message is none, and neither is one with more behind it.
func TestPieces(t *testing.T) {
	for _, c := range samples() {
		b := unhex(c.text)
		for size := range b {
			holdNone(t, b[:size], api.ErrForm)
		}
		for _, more := range []string{"00", "30", "05 00", "30 00", c.text} {
			holdNone(t, slices.Concat(b, unhex(more)), api.ErrForm)
		}
	}
}

// joined writes a short field, of what is in its pieces.
func joined(tag byte, contents ...[]byte) []byte {
	content := slices.Concat(contents...)
	return slices.Concat([]byte{tag, byte(len(content))}, content)
}

// whole is a message of ID 1 with that behind the ID.
func whole(text string) []byte {
	return joined(0x30, unhex("02 01 01"), unhex(text))
}

// P8.1: bytes that are no message's.
func TestNoMessages(t *testing.T) {
	for _, text := range []string{
		"", "00", "30", "30 00", "31 05 02 01 03 42 00", "10 05 02 01 03 42 00", "02 01 03 42 00", "30 80 02 01 03 42 00 00 00",
		"30 03 02 01 03", "30 02 42 00", "30 05 42 00 02 01 03", "30 08 02 01 03 02 01 03 42 00", "30 05 0a 01 03 42 00", "30 05 04 01 03 42 00",
		"30 04 02 00 42 00", "30 06 02 02 00 03 42 00", "30 05 02 01 ff 42 00", "30 05 02 01 80 42 00", "30 06 02 02 80 00 42 00", "30 06 02 02 ff 7f 42 00",
		"30 08 02 04 80 00 00 00 42 00", "30 09 02 05 00 80 00 00 00 42 00", "30 0c 02 08 7f ff ff ff ff ff ff ff 42 00", "30 0d 02 09 00 ff ff ff ff ff ff ff ff 42 00",
		"30 09 02 05 01 00 00 00 01 42 00", "30 05 02 01 03 42 85", "30 05 1f 01 03 42 00",
	} {
		holdNone(t, unhex(text), api.ErrForm)
	}
}

// P8.1: of an operation's tag there is just one for each kind.
func TestOperationTags(t *testing.T) {
	tags := map[byte]bool{0x60: true, 0x42: true, 0x63: true, 0x66: true, 0x68: true, 0x4a: true, 0x6c: true, 0x6e: true, 0x50: true, 0x64: true, 0x73: true}
	for _, a := range answers() {
		tags[unhex(a.tag)[0]] = true
	}
	for _, c := range samples() {
		b := unhex(c.text)
		at := bytes.IndexByte(b[2:], 2) + 2
		at += 2 + int(b[at+1])
		for tag := range 256 {
			if tags[byte(tag)] {
				continue
			}
			b[at] = byte(tag)
			holdNone(t, b, api.ErrForm)
		}
	}
}

// P8.1: operations that aren't as their kinds' are.
func TestNoOperations(t *testing.T) {
	for _, text := range []string{
		// Unbind, delete, abandon.
		"", "42 01 00", "42 02 04 00", "50 00", "50 01 ff", "50 02 00 01", "50 05 00 80 00 00 00", "50 05 02 01 01 00 00", "70 03 02 01 01", "6a 02 04 00", "62 00",
		// Bind.
		"60 00", "60 05 02 01 03 04 00", "60 07 02 01 03 80 00 04 00", "60 07 04 00 02 01 03 80 00", "60 07 0a 01 03 04 00 80 00", "60 08 02 02 00 80 04 00 80 00",
		"60 07 02 01 ff 04 00 80 00", "60 09 02 01 03 04 00 80 00 80 00", "60 09 02 01 03 04 00 04 00 80 00", "60 07 02 01 03 04 00 a3 00", "60 07 02 01 03 04 00 a0 00", "60 07 02 01 03 04 00 04 00",
		// Modify.
		"66 00", "66 02 04 00", "66 02 30 00", "66 06 04 00 30 00 30 00", "66 04 04 00 31 00", "66 06 04 00 30 02 30 00", "66 09 04 00 30 05 30 03 0a 01 00",
		"66 0d 04 00 30 09 30 07 0a 01 04 30 02 04 00", "66 0f 04 00 30 0b 30 09 0a 01 04 30 04 04 00 31 00", "66 0f 04 00 30 0b 30 09 0a 01 ff 30 04 04 00 31 00", "66 0f 04 00 30 0b 30 09 02 01 00 30 04 04 00 31 00",
		"66 0f 04 00 30 0b 31 09 0a 01 00 30 04 04 00 31 00", "66 0f 04 00 30 0b 30 09 0a 01 00 30 04 04 00 30 00", "66 11 04 00 30 0d 30 0b 0a 01 00 30 04 04 00 31 00 04 00", "66 11 04 00 30 0d 30 0b 0a 01 00 30 06 04 00 31 00 31 00",
		"66 11 04 00 30 0d 30 0b 0a 01 00 30 06 04 00 31 02 02 00", "66 0d 04 00 0a 01 00 30 06 04 00 31 02 04 00",
		// Add, and an entry.
		"68 00", "68 02 04 00", "68 06 04 00 30 02 04 00", "68 06 04 00 30 02 30 00", "68 08 04 00 30 04 30 02 04 00", "68 08 04 00 30 04 30 02 31 00", "68 0a 04 00 30 06 30 04 31 00 04 00", "68 06 04 00 30 00 04 00",
		"64 00", "64 02 04 00", "64 04 30 00 04 00", "64 0a 04 00 30 06 31 04 04 00 31 00", "64 0a 04 00 30 06 30 04 04 00 11 00", "64 0a 04 00 31 06 30 04 04 00 31 00",
		// Modify name.
		"6c 00", "6c 05 04 00 01 01 00", "6c 04 04 00 04 00", "6c 06 04 00 04 00 01 00", "6c 08 04 00 04 00 01 02 00 00", "6c 09 04 00 04 00 01 01 00 04 00", "6c 09 04 00 04 00 01 01 00 a0 00", "6c 0b 04 00 04 00 01 01 00 80 00 80 00",
		"6c 09 04 00 04 00 80 00 01 01 00", "6c 09 04 00 04 00 01 01 00 81 00", "6c 07 04 00 04 00 02 01 00",
		// Compare.
		"6e 00", "6e 02 04 00", "6e 04 04 00 30 00", "6e 06 04 00 30 02 04 00", "6e 06 04 00 04 00 04 00", "6e 08 04 00 31 04 04 00 04 00", "6e 0a 04 00 30 06 04 00 04 00 04 00", "6e 0a 04 00 30 04 04 00 04 00 04 00", "6e 08 04 00 a3 04 04 00 04 00",
		// A reference.
		"73 00", "73 03 02 01 00", "73 04 30 02 04 00", "73 04 a3 02 04 00", "73 04 04 00 80 00", "53 02 04 00",
		// Results.
		"61 00", "65 03 0a 01 00", "65 05 0a 01 00 04 00", "65 07 02 01 00 04 00 04 00", "65 07 04 00 04 00 0a 01 00", "65 07 0a 01 ff 04 00 04 00", "65 0b 0a 05 00 80 00 00 00 04 00 04 00", "65 08 0a 02 00 00 04 00 04 00",
		"65 09 0a 01 00 04 00 04 00 a3 00", "65 09 0a 01 00 04 00 04 00 04 00", "65 0b 0a 01 00 04 00 04 00 a3 02 80 00", "65 0b 0a 01 00 04 00 04 00 30 02 04 00", "65 0b 0a 01 00 04 00 04 00 83 02 04 00", "65 0f 0a 01 00 04 00 04 00 a3 02 04 00 a3 02 04 00",
		"61 09 0a 01 00 04 00 04 00 87 00", "78 00", "78 09 0a 01 00 04 00 04 00 8a 00", "78 09 0a 01 00 04 00 04 00 a3 00",
		// Kinds that there are none of.
		"71 00", "72 00", "74 00", "75 00", "76 00", "77 00", "77 02 80 00", "79 00", "7e 00", "70 01 00", "4c 00", "5e 00", "43 00", "41 07 0a 01 00 04 00 04 00", "52 00", "e1 07 0a 01 00 04 00 04 00", "a1 07 0a 01 00 04 00 04 00", "21 07 0a 01 00 04 00 04 00",
	} {
		holdNone(t, whole(text), api.ErrForm)
	}
}

// P8.1: controls that are none.
func TestNoControls(t *testing.T) {
	for _, text := range []string{
		"a0 00", "80 00", "30 02 04 00", "a3 04 30 02 04 00", "a0 04 30 02 04 00 a0 04 30 02 04 00", "a0 04 30 02 04 00 04 00", "04 00", "42 00",
		"a0 02 04 00", "a0 02 30 00", "a0 04 31 02 04 00", "a0 05 30 03 01 01 ff", "a0 07 30 05 01 01 ff 04 00", "a0 09 30 07 04 00 04 00 01 01 ff", "a0 08 30 06 04 00 04 00 04 00",
		"a0 0a 30 08 04 00 01 01 ff 01 01 ff", "a0 06 30 04 04 00 01 00", "a0 08 30 06 04 00 01 02 ff ff", "a0 07 30 05 04 00 02 01 00", "a0 06 30 04 04 00 30 00", "a0 06 30 04 04 00 80 00", "a0 06 30 02 04 00 04 00", "a0 06 30 02 04 00 30 00",
	} {
		holdNone(t, whole("42 00"+text), api.ErrForm)
		holdNone(t, whole("65 07 0a 01 00 04 00 04 00"+text), api.ErrForm)
	}
}

// searching is a search with that filter.
func searching(text string) []byte {
	return joined(0x30, unhex("02 01 01"), joined(0x63, unhex("04 00 0a 01 00 0a 01 00 02 01 00 02 01 00 01 01 00"), unhex(text), unhex("30 00")))
}

// P8.1: filters that are none, by their bytes or since they aren't formed.
func TestNoFilters(t *testing.T) {
	for _, text := range []string{
		"", "30 00", "04 00", "80 00", "81 00", "82 04 87 02 63 6e", "83 07 04 02 63 6e 04 01 61", "a7 02 63 6e", "a7 04 04 02 63 6e", "87 00", "87 01 39", "87 03 63 6e 3d", "87 02 63 6e 87 02 63 6e", "a9 00", "a9 07 04 02 63 6e 04 01 61", "a0 02 04 00", "a0 02 30 00", "a0 01 87", "a1 03 87 01 61 a0 00",
		"a2 00", "a2 04 a0 00 a0 00", "a2 02 87 00", "a2 02 63 6e", "a2 04 a2 02 a2 00",
		"a3 00", "a3 04 04 02 63 6e", "a3 06 04 02 63 6e 04 00", "a3 05 04 00 04 01 61", "a3 07 04 02 63 6e 80 01 61", "a3 09 04 02 63 6e 04 01 61 04 00", "a3 0a 04 02 63 6e 04 01 61 04 01 61", "a3 06 04 01 39 04 01 61", "a5 03 04 01 61", "a6 06 04 02 63 6e 04 00", "a8 07 80 02 63 6e 04 01 61", "a8 06 04 01 20 04 01 61",
		"a4 00", "a4 03 04 01 6f", "a4 05 04 01 6f 30 00", "a4 07 04 01 6f 30 02 80 00", "a4 07 04 01 6f 30 02 81 00", "a4 07 04 01 6f 30 02 82 00", "a4 0a 04 01 6f 30 05 80 01 61 81 00", "a4 0a 04 01 6f 30 05 80 00 81 01 61", "a4 0a 04 01 6f 30 05 81 01 61 82 00", "a4 0a 04 01 6f 30 05 80 01 61 82 00",
		"a4 0b 04 01 6f 30 06 80 01 61 80 01 61", "a4 0b 04 01 6f 30 06 82 01 61 82 01 61", "a4 0b 04 01 6f 30 06 81 01 61 80 01 61", "a4 0b 04 01 6f 30 06 82 01 61 81 01 61", "a4 0b 04 01 6f 30 06 82 01 61 80 01 61", "a4 08 04 01 6f 30 03 83 01 61", "a4 08 04 01 6f 30 03 04 01 61", "a4 08 04 01 6f 31 03 80 01 61", "a4 06 04 01 6f 80 01 61", "a4 07 04 00 30 03 80 01 61", "a4 0a 04 01 6f 30 03 80 01 61 30 00",
	} {
		holdNone(t, searching(text), api.ErrForm)
		holdNone(t, searching("a2 "+hexByte(len(unhex(text)))+text), api.ErrForm)
	}
}

func hexByte(n int) string {
	const digits = "0123456789abcdef"
	return string([]byte{digits[n/16], digits[n%16]})
}

// P8.1: numbers of a search that are beyond their bounds, and fields of it in
// another order, with another tag, or left out.
func TestNoSearches(t *testing.T) {
	own := []string{"04 00", "0a 01 00", "0a 01 00", "02 01 00", "02 01 00", "01 01 00", "87 02 63 6e", "30 00"}
	bytesOf := func(texts []string) []byte {
		return joined(0x30, unhex("02 01 01"), joined(0x63, unhex(strings.Join(texts, ""))))
	}
	if m, err := msg.Decode(bytesOf(own)); !msg.Same(m, search(present())) || err != api.OK {
		t.Fatalf("%s, %v", show(m), err)
	}
	for i, others := range [][]string{
		{"", "30 00", "02 00", "80 00", "04 00 04 00"},
		{"", "0a 01 03", "0a 01 ff", "0a 00", "0a 02 00 00", "02 01 00", "0a 02 01 00"},
		{"", "0a 01 04", "0a 01 ff", "0a 00", "0a 02 00 01", "02 01 00", "0a 02 01 00"},
		{"", "02 01 ff", "0a 01 00", "02 05 00 80 00 00 00", "02 02 00 00", "02 05 01 00 00 00 00"},
		{"", "02 01 ff", "0a 01 00", "02 05 00 80 00 00 00", "02 02 00 7f", "02 08 01 00 00 00 00 00 00 00"},
		{"", "01 00", "01 02 ff ff", "02 01 00", "0a 01 00", "01 01 00 01 01 00"},
		{"", "87 00"},
		{"", "30 02 02 00", "30 02 30 00", "31 00", "a0 00", "30 00 30 00", "30 00 04 00", "04 00", "10 00"},
	} {
		for _, other := range others {
			texts := slices.Clone(own)
			texts[i] = other
			holdNone(t, bytesOf(texts), api.ErrForm)
		}
		for j := range own {
			texts := slices.Clone(own)
			texts[i], texts[j] = texts[j], texts[i]
			if own[i] != own[j] {
				holdNone(t, bytesOf(texts), api.ErrForm)
			}
		}
	}
}

// P8.1: filters of the most that a formed one may be are read, and of more
// not; R1: also if they are nested very deep.
func TestDecodeFilterLimits(t *testing.T) {
	deep := func(depth int) []byte {
		b := unhex("87 02 63 6e")
		for range depth - 1 {
			b = long(0xa2, b)
		}
		return b
	}
	many := func(count int) []byte { return long(0xa1, bytes.Repeat(unhex("87 02 63 6e"), count-1)) }
	value := func(size int) []byte {
		return long(0xa3, unhex("04 02 63 6e"), long(0x04, bytes.Repeat([]byte{'a'}, size)))
	}
	piece := func(size int) []byte {
		return long(0xa4, unhex("04 02 63 6e"), long(0x30, long(0x81, bytes.Repeat([]byte{'a'}, size))))
	}
	with := func(f []byte) []byte {
		return long(0x30, unhex("02 01 01"), long(0x63, unhex("04 00 0a 01 00 0a 01 00 02 01 00 02 01 00 01 01 00"), f, unhex("30 00")))
	}
	for _, c := range []struct {
		b []byte
		f filter.Filter
	}{
		{deep(api.MaxNest), nested(api.MaxNest)},
		{many(api.MaxFilter), wide(api.MaxFilter)},
		{value(api.MaxValue), filter.Filter{Kind: 3, Attr: "cn", Value: strings.Repeat("a", api.MaxValue)}},
		{piece(api.MaxValue), filter.Filter{Kind: 4, Attr: "cn", Any: []string{strings.Repeat("a", api.MaxValue)}}},
	} {
		if m, err := msg.Decode(with(c.b)); !msg.Same(m, search(c.f)) || err != api.OK {
			t.Errorf("Decode(%.80x): %s, %v", with(c.b), show(m), err)
		}
	}
	for _, f := range [][]byte{deep(api.MaxNest + 1), deep(api.MaxNest + 2), deep(500), deep(2500), many(api.MaxFilter + 1), many(4000), value(api.MaxValue + 1), piece(api.MaxValue + 1)} {
		if len(with(f)) > api.MaxPDU {
			t.Fatalf("%d bytes", len(with(f)))
		}
		holdNone(t, with(f), api.ErrForm)
	}
}

// long writes a field with a length of four bytes behind the first one.
func long(tag byte, contents ...[]byte) []byte {
	content := slices.Concat(contents...)
	n := len(content)
	return slices.Concat([]byte{tag, 0x84, byte(n >> 24), byte(n >> 16), byte(n >> 8), byte(n)}, content)
}

// P8.1: each length may be any one of layer 1's.
func TestAnyLengths(t *testing.T) {
	for _, c := range samples() {
		for size := 1; size <= 4; size++ {
			b := relength(unhex(c.text), nil, func(tag byte, content []byte) []byte {
				n := len(content)
				length := []byte{byte(n >> 24), byte(n >> 16), byte(n >> 8), byte(n)}[4-size:]
				return slices.Concat([]byte{tag, byte(0x80 + size)}, length, content)
			})
			if m, err := msg.Decode(b); !msg.Same(m, c.m) || err != api.OK {
				t.Errorf("Decode(%.80x): %s, %v; not %s", b, show(m), err, show(c.m))
			}
		}
	}
}

// P8.1: a true boolean may be any byte but 0, and a Critical may be written
// though it is false.
func TestAnyBooleans(t *testing.T) {
	for c := range 256 {
		b := []byte{byte(c)}
		truth := c != 0
		for _, s := range []struct {
			b []byte
			m msg.Message
		}{
			{slices.Concat(unhex("30 0c 02 01 01 6c 07 04 00 04 00 01 01"), b), msg.Message{ID: 1, Kind: kindModifyName, DeleteOld: truth}},
			{slices.Concat(unhex("30 1a 02 01 01 63 15 04 00 0a 01 00 0a 01 00 02 01 00 02 01 00 01 01"), b, unhex("a0 00 30 00")), msg.Message{ID: 1, Kind: kindSearch, TypesOnly: truth}},
			{slices.Concat(unhex("30 0f 02 01 01 42 00 a0 08 30 06 04 01 31 01 01"), b), msg.Message{ID: 1, Kind: kindUnbind, Controls: []msg.Control{{OID: "1", Critical: truth}}}},
			{slices.Concat(unhex("30 11 02 01 01 42 00 a0 0a 30 08 04 01 31 01 01"), b, unhex("04 00")), msg.Message{ID: 1, Kind: kindUnbind, Controls: []msg.Control{{OID: "1", Critical: truth, HasValue: true}}}},
		} {
			if m, err := msg.Decode(s.b); !msg.Same(m, s.m) || err != api.OK {
				t.Errorf("Decode(%x): %s, %v; not %s", s.b, show(m), err, show(s.m))
			}
		}
	}
}

// P8.1: no text is longer than MaxText.
func TestDecodeTexts(t *testing.T) {
	for _, size := range []int{api.MaxText, api.MaxText + 1, 5000} {
		s := bytes.Repeat([]byte{'a'}, size)
		text, op, empty := long(0x04, s), unhex("02 01 01"), unhex("04 00")
		for i, content := range [][]byte{
			long(0x4a, s), long(0x60, op, text, unhex("80 00")), long(0x60, op, empty, long(0x80, s)),
			long(0x6c, empty, empty, unhex("01 01 00"), long(0x80, s)), long(0x73, empty, text),
			long(0x65, unhex("0a 01 00"), empty, text), long(0x65, unhex("0a 01 00"), empty, empty, long(0xa3, text)),
			long(0x68, empty, long(0x30, long(0x30, text, unhex("31 00")))), long(0x68, empty, long(0x30, long(0x30, empty, long(0x31, empty, text)))),
			slices.Concat(unhex("42 00"), long(0xa0, long(0x30, text))), slices.Concat(unhex("42 00"), long(0xa0, long(0x30, empty, text))),
		} {
			b := long(0x30, op, content)
			if size > api.MaxText {
				holdNone(t, b, api.ErrForm)
			} else if m, err := msg.Decode(b); err != api.OK || len(show(m)) < 100 {
				t.Errorf("%d: %s, %v", i, show(m), err)
			}
		}
	}
}

// P8.1: more than MaxPDU bytes are too long, whatever they are else (R6); so
// are they where a message with shorter lengths isn't.
func TestDecodeTooLong(t *testing.T) {
	for _, c := range []byte{0x00, 0x30, 0x04, 0xff} {
		holdNone(t, bytes.Repeat([]byte{c}, api.MaxPDU), api.ErrForm)
		holdNone(t, bytes.Repeat([]byte{c}, api.MaxPDU+1), api.ErrLong)
		holdNone(t, bytes.Repeat([]byte{c}, 1<<20), api.ErrLong)
	}
	m := exact(api.MaxPDU)
	b, _ := msg.Encode(m)
	holdBytes(t, m, b)
	holdNone(t, append(slices.Clone(b), 0), api.ErrLong)
	longer := slices.Concat([]byte{0x30, 0x83, 0}, b[2:])
	holdNone(t, longer, api.ErrLong)
	m = exact(api.MaxPDU - 1)
	b, _ = msg.Encode(m)
	longer = slices.Concat([]byte{0x30, 0x83, 0}, b[2:])
	if got, err := msg.Decode(longer); len(longer) != api.MaxPDU || !msg.Same(got, m) || err != api.OK {
		t.Errorf("Decode of %d bytes: %s, %v", len(longer), show(got), err)
	}
}

// R3: what is handed in is left as it is, its spare room too, and not kept.
func TestMemoryOfDecode(t *testing.T) {
	for _, c := range samples() {
		b := unhex(c.text)
		room := slices.Concat(b, []byte("spare"))
		want := string(room)
		m, err := msg.Decode(room[:len(b)])
		if string(room) != want {
			t.Errorf("%s: changed to %x", c.text, room)
		}
		for i := range room {
			room[i] ^= 0x55
		}
		if !msg.Same(m, c.m) || err != api.OK {
			t.Errorf("%s: kept: %s, %v", c.text, show(m), err)
		}
	}
}

// R3: no two lists of an answer share memory, nor those of two answers.
func TestMemoryOfAnswers(t *testing.T) {
	overwrite := func(list []string) {
		for i := range list[:cap(list)] {
			list[:cap(list)][i] = "!"
		}
	}
	for _, m := range []msg.Message{
		{Kind: kindAdd, List: []api.Attr{attr("a", "b", "c", "d"), attr("e", "f"), attr("g", "h", "i", "j", "k")}},
		{Kind: kindModify, Changes: []api.Change{{Attr: attr("a", "b", "c", "d")}, {Attr: attr("e", "f")}, {Attr: attr("g", "h", "i")}}},
		{Kind: 5, Refs: []string{"a", "b", "c"}, Controls: []msg.Control{{OID: "d"}, {OID: "e"}, {OID: "f"}}},
		{Kind: kindSearch, Attrs: []string{"a", "b", "c"}, Filter: filter.Filter{Parts: []filter.Filter{{Kind: 4, Attr: "a", Any: []string{"b", "c", "d"}}, {Kind: 4, Attr: "e", Any: []string{"f", "g", "h"}}}}},
	} {
		b, _ := msg.Encode(m)
		first, err := msg.Decode(b)
		second, _ := msg.Decode(b)
		if !msg.Same(first, m) || err != api.OK {
			t.Fatalf("%s, %v", show(first), err)
		}
		if m.Kind == kindAdd {
			overwrite(first.List[0].Values)
			first.List[0].Values = m.List[0].Values
		}
		if m.Kind == kindModify {
			overwrite(first.Changes[0].Attr.Values)
			first.Changes[0].Attr.Values = m.Changes[0].Attr.Values
		}
		if m.Kind == kindSearch {
			overwrite(first.Filter.Parts[0].Any)
			first.Filter.Parts[0].Any = m.Filter.Parts[0].Any
		}
		if !msg.Same(first, m) {
			t.Errorf("lists of one answer share memory: %s", show(first))
		}
		clear(first.List[:cap(first.List)])
		clear(first.Changes[:cap(first.Changes)])
		clear(first.Controls[:cap(first.Controls)])
		clear(first.Filter.Parts[:cap(first.Filter.Parts)])
		overwrite(first.Refs)
		overwrite(first.Attrs)
		if !msg.Same(second, m) || string(b) == "" {
			t.Errorf("answers share memory: %s", show(second))
		}
	}
}
