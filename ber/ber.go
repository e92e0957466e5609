// Package ber is layer 1, fields of bytes: a tag, a length and a content.
package ber

import (
	"bytes"

	"verger/api"
)

const (
	mostLength = 1<<31 - 1
	mostShort  = 127
	// longForm plus the number of the bytes that follow begins a length that
	// one byte can't hold.
	longForm      = 128
	mostLongBytes = 4
	// A tag whose lowest five bits are all 1 would go on in further bytes,
	// and is none here.
	manyTag      = 0x1f
	mostIntBytes = 8
)

// Length tells the shortest length of n; none if there is no length for it.
func Length(n int) []byte {
	if n < 0 || n > mostLength {
		return nil
	}
	if n <= mostShort {
		return []byte{byte(n)}
	}
	size := 1
	for n>>(8*size) != 0 {
		size++
	}
	return append([]byte{byte(longForm + size)}, highestFirst(uint64(n), size)...)
}

// Field puts a tag and the shortest length ahead of a copy of the content.
func Field(tag byte, content []byte) []byte {
	length := Length(len(content))
	field := make([]byte, 0, 1+len(length)+len(content))
	field = append(field, tag)
	field = append(field, length...)
	return append(field, content...)
}

// Int tells the content of the integer n.
func Int(n int64) []byte {
	size := 1
	// What is left out, and the highest bit that stays, must all be as the
	// sign is: else the content would tell another integer.
	for n>>(8*size-1) != n>>63 {
		size++
	}
	return highestFirst(uint64(n), size)
}

// highestFirst tells the lowest size bytes of n.
func highestFirst(n uint64, size int) []byte {
	b := make([]byte, size)
	for i := range b {
		b[i] = byte(n >> (8 * (size - 1 - i)))
	}
	return b
}

// Bool tells the content of a boolean.
func Bool(b bool) []byte {
	if b {
		return []byte{255}
	}
	return []byte{0}
}

// Take tells the tag and the content of the field at b's beginning, and what
// stands behind it. ErrNone says that more bytes might still make a field.
func Take(b []byte) (byte, []byte, []byte, api.Errno) {
	tag, content, rest, err := cut(b)
	if err != api.OK {
		return 0, nil, nil, err
	}
	return tag, bytes.Clone(content), bytes.Clone(rest), api.OK
}

// cut is Take without copies, so that a walk over many fields need not copy
// what is left at each of them.
func cut(b []byte) (byte, []byte, []byte, api.Errno) {
	if len(b) == 0 {
		return 0, nil, nil, api.ErrNone
	}
	if b[0]&manyTag == manyTag {
		return 0, nil, nil, api.ErrForm
	}
	length, rest, err := cutLength(b[1:])
	if err != api.OK {
		return 0, nil, nil, err
	}
	if length > uint64(len(rest)) {
		return 0, nil, nil, api.ErrNone
	}
	return b[0], rest[:length], rest[length:], api.OK
}

// cutLength tells the length at b's beginning, the shortest or not, and what
// stands behind it. It may be beyond what an int can hold.
func cutLength(b []byte) (uint64, []byte, api.Errno) {
	if len(b) == 0 {
		return 0, nil, api.ErrNone
	}
	first, rest := b[0], b[1:]
	if first <= mostShort {
		return uint64(first), rest, api.OK
	}
	size := int(first) - longForm
	if size < 1 || size > mostLongBytes {
		return 0, nil, api.ErrForm
	}
	if len(rest) < size {
		return 0, nil, api.ErrNone
	}
	length := uint64(0)
	for _, c := range rest[:size] {
		length = length<<8 | uint64(c)
	}
	return length, rest[size:], api.OK
}

// ToInt tells the integer whose content it is.
func ToInt(content []byte) (int64, api.Errno) {
	if len(content) < 1 || len(content) > mostIntBytes || longerThanNeeded(content) {
		return 0, api.ErrForm
	}
	// The first byte bears the sign, and spreads it over what isn't written.
	n := int64(int8(content[0]))
	for _, c := range content[1:] {
		n = n<<8 | int64(c)
	}
	return n, api.OK
}

// longerThanNeeded tells whether an integer's first byte only says again
// what the highest bit of the second one says.
func longerThanNeeded(content []byte) bool {
	if len(content) < 2 {
		return false
	}
	negative := content[1] >= 0x80
	return content[0] == 0 && !negative || content[0] == 0xff && negative
}

// ToBool tells the boolean whose content it is: any byte but 0 is true.
func ToBool(content []byte) (bool, api.Errno) {
	if len(content) != 1 {
		return false, api.ErrForm
	}
	return content[0] != 0, api.OK
}

// List tells the tags and the contents of the fields that the content is
// made of.
func List(content []byte) ([]byte, [][]byte, api.Errno) {
	var tags []byte
	var contents [][]byte
	for rest := content; len(rest) > 0; {
		tag, inner, behind, err := cut(rest)
		if err != api.OK {
			return nil, nil, err
		}
		tags = append(tags, tag)
		contents = append(contents, bytes.Clone(inner))
		rest = behind
	}
	return tags, contents, api.OK
}
