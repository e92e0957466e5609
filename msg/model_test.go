package msg_test

import (
	"bytes"
	"encoding/asn1"
	"math/rand"
	"regexp"
	"slices"
	"strconv"
	"strings"
	"testing"

	"verger/api"
	"verger/ber"
	"verger/filter"
	"verger/msg"
)

// relength writes bytes anew, field by field; path has the tags of the fields
// around.
func relength(b, path []byte, write func(tag byte, content []byte) []byte) []byte {
	var out []byte
	for len(b) > 0 {
		tag, content, rest, _ := ber.Take(b)
		if tag&0x20 != 0 {
			content = relength(content, append(slices.Clone(path), tag), write)
		}
		out = append(out, write(tag, content)...)
		b = rest
	}
	return out
}

// canonical tells how the message is written whose bytes, as they may be read,
// these are.
func canonical(b, path []byte) []byte {
	var out []byte
	for len(b) > 0 {
		tag, content, rest, _ := ber.Take(b)
		b = rest
		switch {
		case tag == 0x01 && content[0] != 0:
			content = []byte{0xff}
		case tag == 0x01 && bytes.Equal(path, []byte{0x30, 0xa0, 0x30}):
			continue
		case tag&0x20 != 0:
			content = canonical(content, append(slices.Clone(path), tag))
		}
		out = append(out, ber.Field(tag, content)...)
	}
	return out
}

// The model writes bytes as words, a field a word: its tag, and behind that
// its fields in brackets, or its number, or a letter that tells of its text:
// e if it is empty, a if it can be a filter's Attr, s if it can be a value of
// it, t if it is longer, and x where it can be nothing.
const (
	modelNumber   = `\d+`
	modelText     = `04[east]`
	modelAttr     = `30\(` + modelText + ` 31\((?:` + modelText + ` )*\) \) `
	modelList     = modelText + ` 30\((?:` + modelAttr + `)*\) `
	modelResult   = `0a` + modelNumber + ` ` + modelText + ` ` + modelText + ` (?:a3\((?:` + modelText + ` )+\) )?`
	modelSearch   = `63\(` + modelText + ` 0a[0-2] 0a[0-3] 02` + modelNumber + ` 02` + modelNumber + ` 01[01] F 30\((?:` + modelText + ` )*\) \) `
	modelControls = `(?:a0\((?:30\(` + modelText + ` (?:01[01] )?(?:` + modelText + ` )?\) )+\) )?`
	modelPieces   = `(?:80[as] (?:81[as] )*(?:82[as] )?|(?:81[as] )+(?:82[as] )?|82[as] )`
)

// modelOperations are those of all kinds but search.
var modelOperations = []string{
	`60\(02(?:\d|\d\d|1[01]\d|12[0-7]) ` + modelText + ` 80[east] \) `,
	`42e `,
	`66\(` + modelText + ` 30\((?:30\(0a[0-3] ` + modelAttr + `\) )*\) \) `,
	`6[48]\(` + modelList + `\) `,
	`4a[east] `,
	`6c\(` + modelText + ` ` + modelText + ` 01[01] (?:80[east] )?\) `,
	`6e\(` + modelText + ` 30\(` + modelText + ` ` + modelText + ` \) \) `,
	`50` + modelNumber + ` `,
	`(?:6[1579bdf]|78)\(` + modelResult + `\) `,
	`73\((?:` + modelText + ` )+\) `,
}

var (
	modelSimple   = regexp.MustCompile(`a[3568]\(04a 04[as] \) |87a |a4\(04a 30\(` + modelPieces + `\) \) `)
	modelJoined   = regexp.MustCompile(`a[01]\((?:F )*\) |a2\(F \) `)
	modelSearches = regexp.MustCompile(`^30\(02` + modelNumber + ` ` + modelSearch + modelControls + `\) $`)
	modelOthers   = regexp.MustCompile(`^30\(02` + modelNumber + ` (?:` + strings.Join(modelOperations, "|") + `)` + modelControls + `\) $`)
	modelOfAttr   = regexp.MustCompile(`^[A-Za-z][A-Za-z0-9-]{0,39}$`)
)

// words tells the model's words for bytes.
func words(b []byte) string {
	var out strings.Builder
	for len(b) > 0 {
		tag, content, rest, err := ber.Take(b)
		if err != api.OK {
			return "x"
		}
		b = rest
		out.WriteString(hexByte(int(tag)))
		switch {
		case tag&0x20 != 0:
			out.WriteString("(" + words(content) + ")")
		case tag == 0x01:
			out.WriteString(boolWord(content))
		case tag == 0x02 || tag == 0x0a || tag == 0x50:
			out.WriteString(numberWord(content))
		default:
			out.WriteString(textWord(string(content)))
		}
		out.WriteString(" ")
	}
	return out.String()
}

func boolWord(content []byte) string {
	switch {
	case len(content) != 1:
		return "x"
	case content[0] == 0:
		return "0"
	}
	return "1"
}

func numberWord(content []byte) string {
	if len(content) > 100 {
		return "x"
	}
	var n int64
	// The library takes the shortest content alone, too.
	_, err := asn1.Unmarshal(slices.Concat([]byte{0x02, byte(len(content))}, content), &n)
	if err != nil || n < 0 || n > most {
		return "x"
	}
	return strconv.FormatInt(n, 10)
}

func textWord(text string) string {
	switch {
	case text == "":
		return "e"
	case modelOfAttr.MatchString(text):
		return "a"
	case len(text) <= api.MaxValue:
		return "s"
	case len(text) <= api.MaxText:
		return "t"
	}
	return "x"
}

// model tells whether bytes are a message's, as they may be read, if they have
// no great filter.
func model(b []byte) bool {
	s := words(b)
	if modelOthers.MatchString(s) {
		return true
	}
	s = modelSimple.ReplaceAllString(s, "F ")
	for before := ""; before != s; {
		before = s
		s = modelJoined.ReplaceAllString(s, "F ")
	}
	return modelSearches.MatchString(s)
}

// holdModel holds Decode of some bytes to the model, and Encode to write what
// is read as it should be.
func holdModel(t *testing.T, b []byte) bool {
	t.Helper()
	m, err := msg.Decode(b)
	if !model(b) {
		if !msg.Same(m, msg.Message{}) || err != api.ErrForm {
			t.Errorf("Decode(%x): %s, %v", b, show(m), err)
		}
		return false
	}
	want := canonical(b, nil)
	if got, errBack := msg.Encode(m); string(got) != string(want) || err != api.OK || errBack != api.OK {
		t.Errorf("Decode(%x): %s, %v; encoded %x, %v", b, show(m), err, got, errBack)
	}
	return true
}

// edges are the bytes that mean something in a message.
var edges = []byte{0x00, 0x01, 0x02, 0x03, 0x04, 0x05, 0x06, 0x07, 0x08, 0x0a, 0x30, 0x31, 0x42, 0x4a, 0x50, 0x60, 0x61, 0x63, 0x64, 0x65, 0x68, 0x6c, 0x73, 0x78, 0x7f, 0x80, 0x81, 0x82, 0x84, 0x85, 0x87, 0xa0, 0xa1, 0xa2, 0xa3, 0xa4, 0xa5, 0xa7, 0xa8, 0xff}

// P8.1: bytes that differ from a message's in one or two bytes.
func TestChangedBytes(t *testing.T) {
	found, none := 0, 0
	hold := func(b []byte) {
		if holdModel(t, b) {
			found++
		} else {
			none++
		}
	}
	for _, c := range samples() {
		b := unhex(c.text)
		hold(b)
		for i, old := range b {
			for _, other := range append([]byte{old - 1, old + 1}, edges...) {
				b[i] = other
				hold(b)
				// A byte more, or less, goes with the lengths ahead of it.
				if i > 1 && b[1] < 127 {
					longer := slices.Insert(slices.Clone(b), i, other)
					longer[1]++
					hold(longer)
				}
			}
			b[i] = old
			if i > 1 {
				shorter := slices.Delete(slices.Clone(b), i, i+1)
				shorter[1]--
				hold(shorter)
			}
		}
	}
	if found < 5000 || none < 5000 {
		t.Errorf("just %d messages, and %d that are none", found, none)
	}
}

// P8.1: messages with one of their fields changed, left out, or doubled.
func TestChangedFields(t *testing.T) {
	found := 0
	for _, c := range samples() {
		count := 0
		relength(unhex(c.text), nil, func(tag byte, content []byte) []byte {
			count++
			return ber.Field(tag, content)
		})
		for at := range count {
			for _, change := range fieldChanges() {
				i := -1
				b := relength(unhex(c.text), nil, func(tag byte, content []byte) []byte {
					i++
					if i == at {
						return change(tag, content)
					}
					return ber.Field(tag, content)
				})
				if holdModel(t, b) {
					found++
				}
			}
		}
	}
	if found < 2000 {
		t.Errorf("just %d messages", found)
	}
}

// fieldChanges each write a field as another one, or as more or fewer.
func fieldChanges() []func(tag byte, content []byte) []byte {
	list := []func(tag byte, content []byte) []byte{
		func(tag byte, content []byte) []byte { return nil },
		func(tag byte, content []byte) []byte {
			return append(ber.Field(tag, content), ber.Field(tag, content)...)
		},
		func(tag byte, content []byte) []byte { return ber.Field(tag, nil) },
		func(tag byte, content []byte) []byte { return ber.Field(tag, append([]byte{0}, content...)) },
		func(tag byte, content []byte) []byte { return ber.Field(tag, append(content, 0)) },
		func(tag byte, content []byte) []byte { return ber.Field(tag, append(content, 4, 0)) },
		func(tag byte, content []byte) []byte { return ber.Field(tag, append(content, content...)) },
		func(tag byte, content []byte) []byte { return ber.Field(tag, ber.Field(tag, content)) },
		func(tag byte, content []byte) []byte { return ber.Field(tag^0x20, content) },
	}
	for _, size := range []int{1, api.MaxValue, api.MaxValue + 1, api.MaxText, api.MaxText + 1} {
		list = append(list, func(tag byte, content []byte) []byte { return ber.Field(tag, bytes.Repeat([]byte{'a'}, size)) })
	}
	for _, other := range edges {
		list = append(list,
			func(tag byte, content []byte) []byte { return ber.Field(other, content) },
			func(tag byte, content []byte) []byte { return ber.Field(tag, []byte{other}) },
			func(tag byte, content []byte) []byte {
				return append(ber.Field(other, nil), ber.Field(tag, content)...)
			},
			func(tag byte, content []byte) []byte {
				return append(ber.Field(tag, content), ber.Field(other, []byte{1})...)
			})
	}
	return list
}

// maker makes random messages.
type maker struct {
	*rand.Rand
}

func (r maker) text() string {
	b := make([]byte, r.Intn(4))
	if r.Intn(20) == 0 {
		b = make([]byte, r.Intn(300))
	}
	r.Read(b)
	return string(b)
}

func (r maker) texts() []string {
	list := make([]string, r.Intn(4))
	for i := range list {
		list[i] = r.text()
	}
	return list
}

func (r maker) number() int64 {
	return r.Int63n(1 << (1 + r.Intn(31)))
}

func (r maker) flag() bool {
	return r.Intn(2) == 0
}

func (r maker) attrs() []api.Attr {
	list := make([]api.Attr, r.Intn(4))
	for i := range list {
		list[i] = attr(r.text(), r.texts()...)
	}
	return list
}

// filter makes a filter that is formed, but where a value is too long.
func (r maker) filter(depth int) filter.Filter {
	value := func() string { return "v" + r.text() }
	f := filter.Filter{Kind: r.Intn(9)}
	if depth == 0 {
		f.Kind = 3 + r.Intn(6)
	}
	switch f.Kind {
	case 0, 1:
		for range r.Intn(3) {
			f.Parts = append(f.Parts, r.filter(depth-1))
		}
		return f
	case 2:
		f.Parts = []filter.Filter{r.filter(depth - 1)}
		return f
	case 4:
		f.First, f.Last = r.text(), value()
		for range r.Intn(3) {
			f.Any = append(f.Any, value())
		}
	case 3, 5, 6, 8:
		f.Value = value()
	}
	f.Attr = []string{"cn", "x-1", "OU"}[r.Intn(3)]
	return f
}

func (r maker) message() msg.Message {
	kinds := []int64{kindBind, kindUnbind, kindSearch, kindEntry, kindModify, kindAdd, kindDelete, kindModifyName, kindCompare, kindAbandon, kindReference, 1, 5, 7, 9, 11, 13, 15, kindNotice}
	m := msg.Message{ID: r.number(), Kind: kinds[r.Intn(len(kinds))]}
	names, _ := belonging(m.Kind)
	values := msg.Message{
		Name: r.text(), Password: r.text(), Version: r.Int63n(128), Scope: r.Int63n(3), Deref: r.Int63n(4), Size: r.number(), Time: r.number(),
		TypesOnly: r.flag(), Filter: r.filter(3), Attrs: r.texts(), List: r.attrs(), NewRDN: r.text(), DeleteOld: r.flag(), HasSuperior: r.flag(),
		Attr: r.text(), Value: r.text(), Target: r.number(), Code: r.number(), Matched: r.text(), Text: r.text(), Refs: r.texts(),
	}
	for _, a := range r.attrs() {
		values.Changes = append(values.Changes, api.Change{Op: r.Intn(4), Attr: a})
	}
	if values.HasSuperior {
		values.Superior = r.text()
	}
	for range r.Intn(3) {
		c := msg.Control{OID: r.text(), Critical: r.flag(), HasValue: r.flag()}
		if c.HasValue {
			c.Value = r.text()
		}
		values.Controls = append(values.Controls, c)
	}
	for _, name := range names {
		take(&m, values, name)
	}
	return m
}

// take lets a message have one field of another one.
func take(m *msg.Message, from msg.Message, name string) {
	switch name {
	case "Name":
		m.Name = from.Name
	case "Password":
		m.Password = from.Password
	case "Version":
		m.Version = from.Version
	case "Scope":
		m.Scope = from.Scope
	case "Deref":
		m.Deref = from.Deref
	case "Size":
		m.Size = from.Size
	case "Time":
		m.Time = from.Time
	case "TypesOnly":
		m.TypesOnly = from.TypesOnly
	case "Filter":
		m.Filter = from.Filter
	case "Attrs":
		m.Attrs = from.Attrs
	case "List":
		m.List = from.List
	case "Changes":
		m.Changes = from.Changes
	case "NewRDN":
		m.NewRDN = from.NewRDN
	case "DeleteOld":
		m.DeleteOld = from.DeleteOld
	case "HasSuperior":
		m.HasSuperior, m.Superior = from.HasSuperior, from.Superior
	case "Attr":
		m.Attr = from.Attr
	case "Value":
		m.Value = from.Value
	case "Target":
		m.Target = from.Target
	case "Code":
		m.Code = from.Code
	case "Matched":
		m.Matched = from.Matched
	case "Text":
		m.Text = from.Text
	case "Refs":
		m.Refs = from.Refs
	case "Controls":
		m.Controls = from.Controls
	}
}

// P8.1, P8.2: Decode undoes Encode of random messages, whose bytes are as the
// model says.
func TestManyMessages(t *testing.T) {
	r := maker{rand.New(rand.NewSource(82))}
	for range 20000 {
		m := r.message()
		formed := filter.Formed(m.Filter) && (m.Kind != kindReference || len(m.Refs) > 0)
		holdFormed(t, m, formed)
		if b, _ := msg.Encode(m); formed && (!model(b) || string(canonical(b, nil)) != string(b)) {
			t.Errorf("Encode(%s): %x", show(m), b)
		}
	}
}
