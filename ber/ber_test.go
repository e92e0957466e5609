package ber_test

import (
	"bytes"
	"encoding/asn1"
	"encoding/hex"
	"math"
	"strings"
	"testing"

	"verger/api"
	"verger/ber"
)

// unhex reads bytes written as hexadecimal digits, with blanks between.
func unhex(t *testing.T, s string) []byte {
	t.Helper()
	b, err := hex.DecodeString(strings.ReplaceAll(s, " ", ""))
	if err != nil {
		t.Fatal(err)
	}
	return b
}

// eachString calls see with every list of at most most of the letters.
func eachString(letters []byte, most int, see func([]byte)) {
	var grow func(b []byte)
	grow = func(b []byte) {
		see(bytes.Clone(b))
		if len(b) == most {
			return
		}
		for _, c := range letters {
			grow(append(b, c))
		}
	}
	grow(nil)
}

// takeLetters are the bytes at the edges of tags and lengths.
var takeLetters = []byte{0x00, 0x01, 0x02, 0x1f, 0x30, 0x7f, 0x80, 0x81, 0x82, 0x84, 0x85, 0xff}

// P1.1: the shortest length, at every size's edges.
func TestLength(t *testing.T) {
	for _, c := range []struct {
		n    int
		want string
	}{
		{0, "00"}, {1, "01"}, {126, "7e"}, {127, "7f"},
		{128, "81 80"}, {129, "81 81"}, {255, "81 ff"},
		{256, "82 01 00"}, {300, "82 01 2c"}, {65535, "82 ff ff"},
		{65536, "83 01 00 00"}, {1<<24 - 1, "83 ff ff ff"},
		{1 << 24, "84 01 00 00 00"}, {0x12345678, "84 12 34 56 78"},
		{1<<31 - 1, "84 7f ff ff ff"},
	} {
		if b := ber.Length(c.n); !bytes.Equal(b, unhex(t, c.want)) {
			t.Errorf("Length(%d): %x, not %s", c.n, b, c.want)
		}
	}
}

// P1.1: there is no length below 0, and none above 2^31 - 1.
func TestLengthBeyond(t *testing.T) {
	for _, n := range []int{-1, -127, -128, -256, math.MinInt32, math.MinInt, 1 << 31, 1<<32 - 1, 1 << 32, 1<<32 + 5, 1 << 40, math.MaxInt} {
		if b := ber.Length(n); len(b) != 0 {
			t.Errorf("Length(%d): %x", n, b)
		}
	}
}

// P1.1: a length isn't longer than need be, and says n.
func TestLengthShortest(t *testing.T) {
	for n := 0; n < 70000; n++ {
		b := ber.Length(n)
		want := 1
		for most := 127; n > most; most = 1<<(8*(want-1)) - 1 {
			want++
		}
		said := 0
		for _, c := range b[min(1, len(b)-1):] {
			said = said<<8 | int(c)
		}
		if len(b) != want || said != n || want > 1 && b[0] != byte(0x80+want-1) {
			t.Fatalf("Length(%d): %x", n, b)
		}
	}
}

// P1.1: a field is its tag, the shortest length and the content.
func TestField(t *testing.T) {
	for _, c := range []struct {
		tag           byte
		content, want string
	}{
		{0x04, "", "04 00"},
		{0x04, "61 62", "04 02 61 62"},
		{0x30, "02 01 05", "30 03 02 01 05"},
		{0x00, "00", "00 01 00"},
		{0x1f, "61", "1f 01 61"},
		{0xff, "61", "ff 01 61"},
	} {
		if b := ber.Field(c.tag, unhex(t, c.content)); !bytes.Equal(b, unhex(t, c.want)) {
			t.Errorf("Field(%x, %s): %x, not %s", c.tag, c.content, b, c.want)
		}
	}
}

// P1.1: a field's length is the shortest, at every size's edges.
func TestFieldLength(t *testing.T) {
	for _, n := range []int{0, 1, 127, 128, 255, 256, 65535, 65536, 1<<24 - 1, 1 << 24} {
		content := bytes.Repeat([]byte{0xa5}, n)
		want := append(append([]byte{0x31}, ber.Length(n)...), content...)
		if !bytes.Equal(ber.Field(0x31, content), want) {
			t.Errorf("Field of %d bytes", n)
		}
	}
}

// P1.1: every tag goes in as it is, also one that Take refuses.
func TestFieldTags(t *testing.T) {
	for tag := 0; tag < 256; tag++ {
		if b := ber.Field(byte(tag), []byte("ab")); string(b) != string([]byte{byte(tag), 2, 'a', 'b'}) {
			t.Errorf("Field(%x): %x", tag, b)
		}
	}
}

// P1.1: an integer's content, at every size's edges.
func TestInt(t *testing.T) {
	for _, c := range []struct {
		n    int64
		want string
	}{
		{0, "00"}, {1, "01"}, {-1, "ff"}, {127, "7f"}, {-128, "80"},
		{128, "00 80"}, {255, "00 ff"}, {256, "01 00"}, {-129, "ff 7f"}, {-256, "ff 00"},
		{32767, "7f ff"}, {32768, "00 80 00"}, {-32768, "80 00"}, {-32769, "ff 7f ff"},
		{1<<31 - 1, "7f ff ff ff"}, {1 << 31, "00 80 00 00 00"}, {-1 << 31, "80 00 00 00"},
		{math.MaxInt64, "7f ff ff ff ff ff ff ff"},
		{math.MinInt64, "80 00 00 00 00 00 00 00"},
		{0x0102030405060708, "01 02 03 04 05 06 07 08"},
	} {
		if b := ber.Int(c.n); !bytes.Equal(b, unhex(t, c.want)) {
			t.Errorf("Int(%d): %x, not %s", c.n, b, c.want)
		}
	}
}

// someInts tells the integers near every power of two, and all small ones.
func someInts() []int64 {
	var list []int64
	for n := int64(-70000); n <= 70000; n++ {
		list = append(list, n)
	}
	for shift := 0; shift < 64; shift++ {
		for near := int64(-3); near <= 3; near++ {
			list = append(list, int64(uint64(1)<<shift)+near, -int64(uint64(1)<<shift)+near)
		}
	}
	return list
}

// P1.1: the library's own encoder writes an integer with the same content.
func TestIntAsTheLibrary(t *testing.T) {
	for _, n := range someInts() {
		want, err := asn1.Marshal(n)
		if err != nil {
			t.Fatal(err)
		}
		if b := ber.Field(2, ber.Int(n)); !bytes.Equal(b, want) {
			t.Fatalf("Int(%d): %x, not %x", n, b, want)
		}
	}
}

// P1.1: a boolean's content is one byte.
func TestBool(t *testing.T) {
	if b := ber.Bool(true); string(b) != "\xff" {
		t.Errorf("true: %x", b)
	}
	if b := ber.Bool(false); string(b) != "\x00" {
		t.Errorf("false: %x", b)
	}
}

// P1.2: what Take answers of a field, with any length that says its size.
func TestTake(t *testing.T) {
	for _, c := range []struct {
		b             string
		tag           byte
		content, rest string
	}{
		{"04 00", 0x04, "", ""},
		{"04 00 04", 0x04, "", "04"},
		{"00 00", 0x00, "", ""},
		{"04 02 61 62", 0x04, "61 62", ""},
		{"04 02 61 62 63", 0x04, "61 62", "63"},
		{"1e 01 61 1f", 0x1e, "61", "1f"},
		{"fe 01 61", 0xfe, "61", ""},
		{"a4 01 61 80", 0xa4, "61", "80"},
		{"04 81 00", 0x04, "", ""},
		{"04 81 02 61 62 63", 0x04, "61 62", "63"},
		{"04 82 00 01 61", 0x04, "61", ""},
		{"04 83 00 00 01 61 62", 0x04, "61", "62"},
		{"04 84 00 00 00 01 61", 0x04, "61", ""},
		{"04 84 00 00 00 00", 0x04, "", ""},
	} {
		tag, content, rest, err := ber.Take(unhex(t, c.b))
		if tag != c.tag || !bytes.Equal(content, unhex(t, c.content)) || !bytes.Equal(rest, unhex(t, c.rest)) || err != api.OK {
			t.Errorf("Take(%s): %x %x %x %v", c.b, tag, content, rest, err)
		}
	}
}

// P1.2: what Take refuses, and by which error.
func TestTakeErrors(t *testing.T) {
	for s, want := range map[string]api.Errno{
		"":                  api.ErrNone,
		"04":                api.ErrNone,
		"1f":                api.ErrForm,
		"3f":                api.ErrForm,
		"ff":                api.ErrForm,
		"1f 00":             api.ErrForm,
		"1f 80":             api.ErrForm,
		"30 80":             api.ErrForm,
		"30 80 00 00":       api.ErrForm,
		"30 85":             api.ErrForm,
		"30 85 00 00 00 00": api.ErrForm,
		"30 88":             api.ErrForm,
		"30 ff":             api.ErrForm,
		"30 81":             api.ErrNone,
		"30 82 01":          api.ErrNone,
		"30 84 00 00 00":    api.ErrNone,
		"30 01":             api.ErrNone,
		"04 02 61":          api.ErrNone,
		"04 7f 61":          api.ErrNone,
		"04 81 02 61":       api.ErrNone,
		"04 82 01 00 61":    api.ErrNone,
		"04 84 00 00 01 61": api.ErrNone,
		"04 84 7f ff ff ff": api.ErrNone,
		"04 84 80 00 00 00": api.ErrNone,
		"04 84 ff ff ff ff": api.ErrNone,
	} {
		tag, content, rest, err := ber.Take(unhex(t, s))
		if err != want || tag != 0 || len(content) != 0 || len(rest) != 0 {
			t.Errorf("Take(%s): %x %x %x %v, not %v", s, tag, content, rest, err, want)
		}
	}
}

// P1.2: of the first bytes alone, every tag and every first byte of a length.
func TestTakeFirstBytes(t *testing.T) {
	for first := 0; first < 256; first++ {
		_, _, _, err := ber.Take([]byte{byte(first)})
		if noTag := first%32 == 31; noTag != (err == api.ErrForm) || !noTag && err != api.ErrNone {
			t.Errorf("Take(%x): %v", first, err)
		}
		want := api.ErrForm
		switch {
		case first == 0:
			want = api.OK
		case first < 128, first > 128 && first <= 132:
			want = api.ErrNone
		}
		if _, _, _, err := ber.Take([]byte{0x30, byte(first)}); err != want {
			t.Errorf("Take(30 %x): %v, not %v", first, err, want)
		}
	}
}

// P1.2: as bytes come, ErrNone is what may yet become a field; an error of
// the form, and a field, stay what they are.
func TestTakeGrowing(t *testing.T) {
	eachString(takeLetters, 4, func(b []byte) {
		tag, content, rest, err := ber.Take(b)
		for _, c := range takeLetters {
			tag2, content2, rest2, err2 := ber.Take(append(bytes.Clone(b), c))
			switch {
			case err == api.OK && (err2 != api.OK || tag2 != tag || !bytes.Equal(content2, content) || !bytes.Equal(rest2, append(rest, c))):
				t.Fatalf("Take(%x) is a field, with %x behind it another one", b, c)
			case err == api.ErrForm && err2 != api.ErrForm:
				t.Fatalf("Take(%x): %v, with %x: %v", b, err, c, err2)
			case err == api.ErrNone && err2 == api.OK && len(rest2) != 0:
				t.Fatalf("Take(%x): %v, with %x: rest %x", b, err, c, rest2)
			}
		}
		if err != api.OK && err != api.ErrForm && err != api.ErrNone {
			t.Fatalf("Take(%x): %v", b, err)
		}
	})
}

// P1.3: an integer's content is read as it is written.
func TestToInt(t *testing.T) {
	for s, want := range map[string]int64{
		"00": 0, "01": 1, "7f": 127, "80": -128, "ff": -1,
		"00 80": 128, "00 ff": 255, "ff 7f": -129, "ff 00": -256, "80 00": -32768, "01 00": 256, "fe ff": -257,
		"00 ff ff ff ff ff ff ff": 1<<56 - 1,
		"7f ff ff ff ff ff ff ff": math.MaxInt64,
		"80 00 00 00 00 00 00 00": math.MinInt64,
		"01 02 03 04 05 06 07 08": 0x0102030405060708,
	} {
		if n, err := ber.ToInt(unhex(t, s)); n != want || err != api.OK {
			t.Errorf("ToInt(%s): %d %v, not %d", s, n, err, want)
		}
	}
}

// P1.3: what is empty, too long, or not as short as may be is no integer's.
func TestToIntErrors(t *testing.T) {
	for _, s := range []string{
		"", "00 00", "00 01", "00 7f", "ff ff", "ff 80", "ff fe", "00 00 80", "ff ff 7f",
		"00 00 00 00 00 00 00 80", "ff ff ff ff ff ff ff 7f",
		"00 80 00 00 00 00 00 00 00", "01 02 03 04 05 06 07 08 09", "ff 7f ff ff ff ff ff ff ff",
		"01 00 00 00 00 00 00 00 00 00",
	} {
		if n, err := ber.ToInt(unhex(t, s)); n != 0 || err != api.ErrForm {
			t.Errorf("ToInt(%s): %d %v", s, n, err)
		}
	}
}

// P1.3: a boolean is one byte; any but 0 is true.
func TestToBool(t *testing.T) {
	for c := 0; c < 256; c++ {
		if b, err := ber.ToBool([]byte{byte(c)}); b != (c != 0) || err != api.OK {
			t.Errorf("ToBool(%x): %v %v", c, b, err)
		}
	}
	for _, s := range []string{"", "\x00\x00", "\xff\xff", "\x00\x01", "\x01\x00\x00"} {
		if b, err := ber.ToBool([]byte(s)); b || err != api.ErrForm {
			t.Errorf("ToBool(%x): %v %v", s, b, err)
		}
	}
}

// P1.3: the fields of a list, in order.
func TestList(t *testing.T) {
	for _, c := range []struct {
		content, tags string
		contents      []string
	}{
		{"", "", nil},
		{"05 00", "05", []string{""}},
		{"04 01 61 02 00", "04 02", []string{"61", ""}},
		{"04 01 61 04 01 62 04 01 61", "04 04 04", []string{"61", "62", "61"}},
		{"30 03 02 01 05 a0 00", "30 a0", []string{"02 01 05", ""}},
		{"04 81 01 61 04 84 00 00 00 02 62 63", "04 04", []string{"61", "62 63"}},
	} {
		tags, contents, err := ber.List(unhex(t, c.content))
		if !bytes.Equal(tags, unhex(t, c.tags)) || len(contents) != len(c.contents) || err != api.OK {
			t.Errorf("List(%s): %x %x %v", c.content, tags, contents, err)
			continue
		}
		for i, want := range c.contents {
			if !bytes.Equal(contents[i], unhex(t, want)) {
				t.Errorf("List(%s): %x", c.content, contents)
			}
		}
	}
}

// P1.3: Take's error, wherever it stands, and nothing beside it.
func TestListErrors(t *testing.T) {
	for s, want := range map[string]api.Errno{
		"04":                    api.ErrNone,
		"04 02 61":              api.ErrNone,
		"1f 00":                 api.ErrForm,
		"04 80":                 api.ErrForm,
		"04 85":                 api.ErrForm,
		"04 01 61 04":           api.ErrNone,
		"04 01 61 04 02 62":     api.ErrNone,
		"04 01 61 04 82 00":     api.ErrNone,
		"04 01 61 1f":           api.ErrForm,
		"04 01 61 04 80":        api.ErrForm,
		"04 01 61 1f 00 04":     api.ErrForm,
		"04 00 04 00 04 7f 1f":  api.ErrNone,
		"04 84 ff ff ff ff 1f ": api.ErrNone,
	} {
		tags, contents, err := ber.List(unhex(t, s))
		if err != want || len(tags) != 0 || len(contents) != 0 {
			t.Errorf("List(%s): %x %x %v, not %v", s, tags, contents, err, want)
		}
	}
}

// P1.3: a list is what Take tells, one field behind the other.
func TestListAsTake(t *testing.T) {
	eachString(takeLetters, 5, func(b []byte) {
		var tags []byte
		var contents [][]byte
		want := api.OK
		for rest := b; len(rest) > 0; {
			tag, content, behind, err := ber.Take(rest)
			if err != api.OK {
				tags, contents, want = nil, nil, err
				break
			}
			tags, contents, rest = append(tags, tag), append(contents, content), behind
		}
		gotTags, gotContents, err := ber.List(b)
		if err != want || !bytes.Equal(gotTags, tags) || len(gotContents) != len(contents) || !bytes.Equal(bytes.Join(gotContents, []byte("|")), bytes.Join(contents, []byte("|"))) {
			t.Fatalf("List(%x): %x %x %v", b, gotTags, gotContents, err)
		}
	})
}

// P1.3: a list of very many fields is gone through in one go.
func TestListLong(t *testing.T) {
	tags, contents, err := ber.List(bytes.Repeat([]byte{4, 1, 'a'}, 300000))
	if len(tags) != 300000 || len(contents) != 300000 || string(contents[299999]) != "a" || err != api.OK {
		t.Error(len(tags), len(contents), err)
	}
}

// P1.4: Take undoes Field, for all tags that are some, whatever is behind.
func TestTakeUndoesField(t *testing.T) {
	for tag := 0; tag < 256; tag++ {
		for _, n := range []int{0, 1, 127, 128, 255, 256, 65535, 65536} {
			content := bytes.Repeat([]byte{byte(tag)}, n)
			for _, behind := range []string{"", "\x1f", "\x30\x80"} {
				got, taken, rest, err := ber.Take(append(ber.Field(byte(tag), content), behind...))
				if tag%32 == 31 {
					if err != api.ErrForm {
						t.Errorf("%x: %v", tag, err)
					}
				} else if got != byte(tag) || !bytes.Equal(taken, content) || string(rest) != behind || err != api.OK {
					t.Errorf("%x of %d: %x %d %x %v", tag, n, got, len(taken), rest, err)
				}
			}
		}
	}
}

// P1.4: ToInt undoes Int.
func TestToIntUndoesInt(t *testing.T) {
	for _, n := range someInts() {
		if m, err := ber.ToInt(ber.Int(n)); m != n || err != api.OK {
			t.Fatalf("%d: %x, %d %v", n, ber.Int(n), m, err)
		}
	}
}

// P1.4: what ToInt reads is just what Int writes, so that there is no other
// content of that integer.
func TestOneContentOfAnInteger(t *testing.T) {
	oneContent := func(b []byte) bool {
		n, err := ber.ToInt(b)
		return err == api.OK && bytes.Equal(ber.Int(n), b) || err == api.ErrForm && n == 0
	}
	for a := 0; a < 256; a++ {
		for b := 0; b < 256; b++ {
			if s := []byte{byte(a), byte(b)}; !oneContent(s) || !oneContent(s[:1]) {
				t.Fatalf("%x", s)
			}
		}
	}
	eachString([]byte{0x00, 0x01, 0x7f, 0x80, 0xff}, 9, func(b []byte) {
		if !oneContent(b) {
			t.Fatalf("%x", b)
		}
	})
}

// scribble writes over a slice, and over its spare room.
func scribble(b []byte) {
	b = b[:cap(b)]
	for i := range b {
		b[i] = 0xee
	}
}

// roomy puts a text in the middle of spare room.
func roomy(s string) (all, middle []byte) {
	all = []byte("####" + s + "########")
	return all, all[4 : 4+len(s)]
}

// R3: what is handed in stays, and an answer shares nothing with it.
func TestMemoryOfTake(t *testing.T) {
	all, b := roomy("\x04\x02ab\x05\x01c")
	before := bytes.Clone(all)
	_, content, rest, _ := ber.Take(b)
	scribble(content)
	if string(rest) != "\x05\x01c" || !bytes.Equal(all, before) {
		t.Errorf("content written over: %x %x", rest, all)
	}
	_, content, rest, _ = ber.Take(b)
	scribble(rest)
	if string(content) != "ab" || !bytes.Equal(all, before) {
		t.Errorf("rest written over: %x %x", content, all)
	}
	_, content, rest, _ = ber.Take(b)
	scribble(all)
	if string(content) != "ab" || string(rest) != "\x05\x01c" {
		t.Errorf("argument written over: %x %x", content, rest)
	}
}

// R3: the contents of a list share nothing, neither with each other.
func TestMemoryOfList(t *testing.T) {
	all, b := roomy("\x04\x02ab\x05\x00\x06\x01c")
	before := bytes.Clone(all)
	for i := range 3 {
		tags, contents, _ := ber.List(b)
		scribble(contents[i])
		scribble(tags)
		for j, want := range []string{"ab", "", "c"} {
			if j != i && string(contents[j]) != want {
				t.Errorf("content %d written over: %x", i, contents)
			}
		}
		if !bytes.Equal(all, before) {
			t.Fatalf("content %d written over: %x", i, all)
		}
	}
	tags, contents, _ := ber.List(b)
	scribble(all)
	if string(tags) != "\x04\x05\x06" || string(contents[0]) != "ab" || string(contents[2]) != "c" {
		t.Errorf("argument written over: %x %x", tags, contents)
	}
}

// R3: a field is a copy of its content, and leaves it as it is.
func TestMemoryOfField(t *testing.T) {
	for _, s := range []string{"", "ab", strings.Repeat("x", 200)} {
		all, content := roomy(s)
		before := bytes.Clone(all)
		field := ber.Field(4, content)
		want := bytes.Clone(field)
		if !bytes.Equal(all, before) {
			t.Errorf("Field wrote: %x", all)
		}
		scribble(all)
		if !bytes.Equal(field, want) {
			t.Errorf("argument written over: %x", field)
		}
		all, content = roomy(s)
		scribble(ber.Field(4, content))
		if !bytes.Equal(all, before) {
			t.Errorf("field written over: %x", all)
		}
	}
}

// R3: what one call answers doesn't hang on what was done to another answer.
func TestMemoryOfAnswers(t *testing.T) {
	for range 2 {
		if b := ber.Bool(true); string(b) != "\xff" {
			t.Errorf("%x", b)
		}
		if b := ber.Bool(false); string(b) != "\x00" {
			t.Errorf("%x", b)
		}
		if b := ber.Int(300); string(b) != "\x01\x2c" {
			t.Errorf("%x", b)
		}
		if b := ber.Length(300); string(b) != "\x82\x01\x2c" {
			t.Errorf("%x", b)
		}
		for _, b := range [][]byte{ber.Bool(true), ber.Bool(false), ber.Int(300), ber.Length(300)} {
			scribble(b)
		}
	}
}

// R3, of the calls that read: they leave their arguments as they are.
func TestMemoryOfReaders(t *testing.T) {
	for _, s := range []string{"", "\x00", "\x00\x80", "\x00\x01", "\xff\x7f", "\x04\x01a\x1f"} {
		all, b := roomy(s)
		before := bytes.Clone(all)
		ber.ToInt(b)
		ber.ToBool(b)
		ber.Take(b)
		ber.List(b)
		if !bytes.Equal(all, before) {
			t.Errorf("%x: %x", s, all)
		}
	}
}

// R1, R4: no bytes at all, and nil, are the same, and nothing panics.
func TestNil(t *testing.T) {
	if b := ber.Field(4, nil); string(b) != "\x04\x00" {
		t.Errorf("%x", b)
	}
	if _, _, _, err := ber.Take(nil); err != api.ErrNone {
		t.Error(err)
	}
	if _, err := ber.ToInt(nil); err != api.ErrForm {
		t.Error(err)
	}
	if _, err := ber.ToBool(nil); err != api.ErrForm {
		t.Error(err)
	}
	if tags, contents, err := ber.List(nil); len(tags) != 0 || len(contents) != 0 || err != api.OK {
		t.Error(tags, contents, err)
	}
}
