package msg_test

import (
	"encoding/hex"
	"fmt"
	"slices"
	"strings"
	"testing"

	"verger/api"
	"verger/filter"
	"verger/msg"
)

// The kinds, by the chapter's numbers.
const (
	kindBind       = 0
	kindUnbind     = 2
	kindSearch     = 3
	kindEntry      = 4
	kindModify     = 6
	kindAdd        = 8
	kindDelete     = 10
	kindModifyName = 12
	kindCompare    = 14
	kindAbandon    = 16
	kindReference  = 19
	kindNotice     = 24
)

// most is the highest number that a message may have.
const most = 1<<31 - 1

// answer is a kind that has a result, with its tag.
type answer struct {
	kind int64
	tag  string
}

func answers() []answer {
	return []answer{{1, "61"}, {5, "65"}, {7, "67"}, {9, "69"}, {11, "6b"}, {13, "6d"}, {15, "6f"}, {kindNotice, "78"}}
}

// unhex reads bytes written as hexadecimal digits, with blanks between.
func unhex(s string) []byte {
	b, err := hex.DecodeString(strings.ReplaceAll(s, " ", ""))
	if err != nil {
		panic(err)
	}
	return b
}

// show tells a message, or the beginning of what it has.
func show(m msg.Message) string {
	return fmt.Sprintf("%.400q", fmt.Sprintf("%+v", m))
}

// attr makes an attribute.
func attr(typ string, values ...string) api.Attr {
	return api.Attr{Type: typ, Values: values}
}

// present makes a short filter, and search a message with a filter.
func present() filter.Filter {
	return filter.Filter{Kind: 7, Attr: "cn"}
}

func search(f filter.Filter) msg.Message {
	return msg.Message{ID: 1, Kind: kindSearch, Filter: f}
}

// sample is a message with its bytes.
type sample struct {
	m    msg.Message
	text string
}

// samples are messages of all kinds, with their bytes.
func samples() []sample {
	return slices.Concat(requestSamples(), filterSamples(), answerSamples(), controlSamples())
}

func requestSamples() []sample {
	return []sample{
		{msg.Message{ID: 3, Kind: kindUnbind}, "30 05 02 01 03 42 00"},
		{msg.Message{ID: 1, Kind: kindDelete, Name: "dc=x"}, "30 09 02 01 01 4a 04 64 63 3d 78"},
		{msg.Message{ID: 1, Kind: kindDelete}, "30 05 02 01 01 4a 00"},
		{msg.Message{}, "30 0c 02 01 00 60 07 02 01 00 04 00 80 00"},
		{msg.Message{ID: 1, Kind: kindBind, Version: 3, Name: "cn=a", Password: "pw"},
			"30 12 02 01 01 60 0d 02 01 03 04 04 63 6e 3d 61 80 02 70 77"},
		{msg.Message{ID: 128, Kind: kindBind, Version: 127, Password: "\x00\xff"},
			"30 0f 02 02 00 80 60 09 02 01 7f 04 00 80 02 00 ff"},
		{search(filter.Filter{}), "30 1a 02 01 01 63 15 04 00 0a 01 00 0a 01 00 02 01 00 02 01 00 01 01 00 a0 00 30 00"},
		{msg.Message{ID: 2, Kind: kindSearch, Name: "dc=x", Scope: 2, Deref: 3, Size: 300, Time: most, TypesOnly: true, Filter: present(), Attrs: []string{"cn", "", "ou"}},
			"30 2e 02 01 02 63 29 04 04 64 63 3d 78 0a 01 02 0a 01 03 02 02 01 2c 02 04 7f ff ff ff 01 01 ff 87 02 63 6e 30 0a 04 02 63 6e 04 00 04 02 6f 75"},
		{msg.Message{ID: 1, Kind: kindModify}, "30 09 02 01 01 66 04 04 00 30 00"},
		{msg.Message{ID: 1, Kind: kindModify, Name: "o=x", Changes: []api.Change{{Op: 3, Attr: attr("cn", "a", "")}, {Attr: attr("")}}},
			"30 29 02 01 01 66 24 04 03 6f 3d 78 30 1d 30 10 0a 01 03 30 0b 04 02 63 6e 31 05 04 01 61 04 00 30 09 0a 01 00 30 04 04 00 31 00"},
		{msg.Message{ID: 1, Kind: kindAdd}, "30 09 02 01 01 68 04 04 00 30 00"},
		{msg.Message{ID: 1, Kind: kindAdd, Name: "o=x", List: []api.Attr{attr("o", "x"), attr("cn"), attr("", "", "y")}},
			"30 29 02 01 01 68 24 04 03 6f 3d 78 30 1d 30 08 04 01 6f 31 03 04 01 78 30 06 04 02 63 6e 31 00 30 09 04 00 31 05 04 00 04 01 79"},
		{msg.Message{ID: 1, Kind: kindModifyName}, "30 0c 02 01 01 6c 07 04 00 04 00 01 01 00"},
		{msg.Message{ID: 1, Kind: kindModifyName, Name: "o=x", NewRDN: "o=y", DeleteOld: true},
			"30 12 02 01 01 6c 0d 04 03 6f 3d 78 04 03 6f 3d 79 01 01 ff"},
		{msg.Message{ID: 1, Kind: kindModifyName, NewRDN: "o=y", HasSuperior: true, Superior: "o=z"},
			"30 14 02 01 01 6c 0f 04 00 04 03 6f 3d 79 01 01 00 80 03 6f 3d 7a"},
		{msg.Message{ID: 1, Kind: kindModifyName, HasSuperior: true}, "30 0e 02 01 01 6c 09 04 00 04 00 01 01 00 80 00"},
		{msg.Message{ID: 1, Kind: kindCompare}, "30 0d 02 01 01 6e 08 04 00 30 04 04 00 04 00"},
		{msg.Message{ID: 1, Kind: kindCompare, Name: "o=x", Attr: "cn", Value: "a"},
			"30 13 02 01 01 6e 0e 04 03 6f 3d 78 30 07 04 02 63 6e 04 01 61"},
		{msg.Message{ID: most, Kind: kindAbandon}, "30 09 02 04 7f ff ff ff 50 01 00"},
		{msg.Message{ID: 1, Kind: kindAbandon, Target: 255}, "30 07 02 01 01 50 02 00 ff"},
		{msg.Message{ID: 1, Kind: kindAbandon, Target: most}, "30 09 02 01 01 50 04 7f ff ff ff"},
	}
}

// filterSamples are searches for filters of all kinds.
func filterSamples() []sample {
	equal := filter.Filter{Kind: 3, Attr: "cn", Value: "a"}
	pieces := func(first, last string, any ...string) filter.Filter {
		return filter.Filter{Kind: 4, Attr: "o", First: first, Any: any, Last: last}
	}
	var list []sample
	for _, c := range []struct {
		f    filter.Filter
		text string
	}{
		{filter.Filter{Kind: 1}, "a1 00"},
		{filter.Filter{Kind: 0, Parts: []filter.Filter{equal, {Kind: 1}}}, "a0 0b a3 07 04 02 63 6e 04 01 61 a1 00"},
		{filter.Filter{Kind: 1, Parts: []filter.Filter{present(), {Kind: 0}, present()}}, "a1 0a 87 02 63 6e a0 00 87 02 63 6e"},
		{filter.Filter{Kind: 2, Parts: []filter.Filter{{Kind: 2, Parts: []filter.Filter{present()}}}}, "a2 06 a2 04 87 02 63 6e"},
		{equal, "a3 07 04 02 63 6e 04 01 61"},
		{filter.Filter{Kind: 5, Attr: "x-9", Value: "\x00*"}, "a5 09 04 03 78 2d 39 04 02 00 2a"},
		{filter.Filter{Kind: 6, Attr: "cn", Value: "a"}, "a6 07 04 02 63 6e 04 01 61"},
		{filter.Filter{Kind: 8, Attr: "cn", Value: "a"}, "a8 07 04 02 63 6e 04 01 61"},
		{pieces("a", ""), "a4 08 04 01 6f 30 03 80 01 61"},
		{pieces("", "a"), "a4 08 04 01 6f 30 03 82 01 61"},
		{pieces("", "", "a"), "a4 08 04 01 6f 30 03 81 01 61"},
		{pieces("a", "b"), "a4 0b 04 01 6f 30 06 80 01 61 82 01 62"},
		{pieces("a", "d", "b", "c"), "a4 11 04 01 6f 30 0c 80 01 61 81 01 62 81 01 63 82 01 64"},
	} {
		size := len(unhex(c.text))
		list = append(list, sample{search(c.f), fmt.Sprintf("30 %02x 02 01 01 63 %02x 04 00 0a 01 00 0a 01 00 02 01 00 02 01 00 01 01 00 %s 30 00", size+24, size+19, c.text)})
	}
	return list
}

func answerSamples() []sample {
	list := []sample{
		{msg.Message{ID: 1, Kind: kindEntry}, "30 09 02 01 01 64 04 04 00 30 00"},
		{msg.Message{ID: 1, Kind: kindEntry, Name: "o=x", List: []api.Attr{attr("o", "x")}},
			"30 16 02 01 01 64 11 04 03 6f 3d 78 30 0a 30 08 04 01 6f 31 03 04 01 78"},
		{msg.Message{ID: 1, Kind: kindReference, Refs: []string{"a"}}, "30 08 02 01 01 73 03 04 01 61"},
		{msg.Message{ID: 1, Kind: kindReference, Refs: []string{"", "ldap://b"}}, "30 11 02 01 01 73 0c 04 00 04 08 6c 64 61 70 3a 2f 2f 62"},
	}
	for _, a := range answers() {
		list = append(list,
			sample{msg.Message{ID: 1, Kind: a.kind}, "30 0c 02 01 01 " + a.tag + " 07 0a 01 00 04 00 04 00"},
			sample{msg.Message{ID: 1, Kind: a.kind, Code: 123, Matched: "o=x", Text: "no"}, "30 11 02 01 01 " + a.tag + " 0c 0a 01 7b 04 03 6f 3d 78 04 02 6e 6f"},
			sample{msg.Message{ID: 1, Kind: a.kind, Code: most, Refs: []string{"a", ""}}, "30 16 02 01 01 " + a.tag + " 11 0a 04 7f ff ff ff 04 00 04 00 a3 05 04 01 61 04 00"})
	}
	return list
}

func controlSamples() []sample {
	return []sample{
		{msg.Message{ID: 1, Kind: kindUnbind, Controls: []msg.Control{{}}}, "30 0b 02 01 01 42 00 a0 04 30 02 04 00"},
		{msg.Message{ID: 1, Kind: kindDelete, Name: "a", Controls: []msg.Control{{OID: "1.2", Critical: true, HasValue: true, Value: "v"}}},
			"30 15 02 01 01 4a 01 61 a0 0d 30 0b 04 03 31 2e 32 01 01 ff 04 01 76"},
		{msg.Message{ID: 1, Kind: kindAbandon, Controls: []msg.Control{{OID: "1", Critical: true}, {OID: "2", HasValue: true}, {OID: "3"}}},
			"30 1c 02 01 01 50 01 00 a0 14 30 06 04 01 31 01 01 ff 30 05 04 01 32 04 00 30 03 04 01 33"},
		{msg.Message{ID: 1, Kind: 5, Refs: []string{"a"}, Controls: []msg.Control{{OID: "1"}}},
			"30 18 02 01 01 65 0c 0a 01 00 04 00 04 00 a3 03 04 01 61 a0 05 30 03 04 01 31"},
	}
}

// holdBytes holds Encode to a message's bytes, and Decode to the message.
func holdBytes(t *testing.T, m msg.Message, b []byte) {
	t.Helper()
	if got, err := msg.Encode(m); string(got) != string(b) || err != api.OK {
		t.Errorf("Encode(%s): %.80x, %v; not %.80x", show(m), got, err, b)
	}
	if got, err := msg.Decode(b); !msg.Same(got, m) || err != api.OK {
		t.Errorf("Decode(%.80x): %s, %v; not %s", b, show(got), err, show(m))
	}
}

// P8.1, P8.2, and the chapter's examples, which come first: messages and
// their bytes.
func TestSamples(t *testing.T) {
	for _, c := range samples() {
		holdBytes(t, c.m, unhex(c.text))
	}
}

// field is a field of a message: put makes it something other than zero.
type field struct {
	name string
	put  func(m *msg.Message)
}

// fields are those beside ID and Kind.
func fields() []field {
	return []field{
		{"Name", func(m *msg.Message) { m.Name = "a" }},
		{"Password", func(m *msg.Message) { m.Password = "a" }},
		{"Version", func(m *msg.Message) { m.Version = 1 }},
		{"Scope", func(m *msg.Message) { m.Scope = 1 }},
		{"Deref", func(m *msg.Message) { m.Deref = 1 }},
		{"Size", func(m *msg.Message) { m.Size = 1 }},
		{"Time", func(m *msg.Message) { m.Time = 1 }},
		{"TypesOnly", func(m *msg.Message) { m.TypesOnly = true }},
		{"Filter", func(m *msg.Message) { m.Filter = present() }},
		{"Filter", func(m *msg.Message) { m.Filter = filter.Filter{Kind: 1} }},
		{"Filter", func(m *msg.Message) { m.Filter = filter.Filter{Parts: []filter.Filter{{}}} }},
		{"Attrs", func(m *msg.Message) { m.Attrs = []string{""} }},
		{"List", func(m *msg.Message) { m.List = []api.Attr{{}} }},
		{"Changes", func(m *msg.Message) { m.Changes = []api.Change{{}} }},
		{"NewRDN", func(m *msg.Message) { m.NewRDN = "a" }},
		{"DeleteOld", func(m *msg.Message) { m.DeleteOld = true }},
		{"HasSuperior", func(m *msg.Message) { m.HasSuperior = true }},
		{"Superior", func(m *msg.Message) { m.Superior = "a" }},
		{"Attr", func(m *msg.Message) { m.Attr = "a" }},
		{"Value", func(m *msg.Message) { m.Value = "a" }},
		{"Target", func(m *msg.Message) { m.Target = 1 }},
		{"Code", func(m *msg.Message) { m.Code = 1 }},
		{"Matched", func(m *msg.Message) { m.Matched = "a" }},
		{"Text", func(m *msg.Message) { m.Text = "a" }},
		{"Refs", func(m *msg.Message) { m.Refs = []string{""} }},
		{"Controls", func(m *msg.Message) { m.Controls = []msg.Control{{}} }},
	}
}

// full is a message that has something in every field, and much in its lists.
// It is made anew at each call.
func full() msg.Message {
	part := filter.Filter{Kind: 4, Attr: "a", First: "b", Any: []string{"c", "d"}, Last: "e"}
	return msg.Message{
		ID: 1, Kind: 2, Name: "n", Password: "p", Version: 3, Scope: 1, Deref: 2, Size: 4, Time: 5, TypesOnly: true,
		Filter: filter.Filter{Kind: 1, Parts: []filter.Filter{part, {Kind: 3, Attr: "f", Value: "g"}}},
		Attrs:  []string{"h", "i"}, List: []api.Attr{attr("j", "k", "l"), attr("m")},
		Changes: []api.Change{{Op: 1, Attr: attr("o", "q")}, {Op: 2}}, NewRDN: "r", DeleteOld: true, HasSuperior: true, Superior: "s",
		Attr: "t", Value: "u", Target: 6, Code: 7, Matched: "v", Text: "w", Refs: []string{"x", "y"},
		Controls: []msg.Control{{OID: "1", Critical: true, HasValue: true, Value: "z"}, {OID: "2"}},
	}
}

// P8.1: Same, of messages that are alike, and of such as differ in one thing.
func TestSame(t *testing.T) {
	if !msg.Same(full(), full()) || !msg.Same(msg.Message{}, msg.Message{}) {
		t.Error("alike, but not the same")
	}
	for _, f := range fields() {
		for _, m := range []msg.Message{{}, {ID: 1, Kind: kindSearch}} {
			other, again := m, m
			f.put(&other)
			f.put(&again)
			if msg.Same(m, other) || msg.Same(other, m) || !msg.Same(other, again) {
				t.Errorf("Same with another %s: %s", f.name, show(other))
			}
		}
	}
	for i, change := range changes() {
		other := full()
		change(&other)
		if msg.Same(full(), other) || msg.Same(other, full()) || !msg.Same(other, other) {
			t.Errorf("Same with change %d: %s", i, show(other))
		}
	}
}

// changes each make another message of a full one.
func changes() []func(m *msg.Message) {
	return []func(m *msg.Message){
		func(m *msg.Message) { m.ID = 2 },
		func(m *msg.Message) { m.ID += 1 << 32 },
		func(m *msg.Message) { m.Kind = 3 },
		func(m *msg.Message) { m.Name, m.Password = m.Password, m.Name },
		func(m *msg.Message) { m.Version, m.Scope = m.Scope, m.Version },
		func(m *msg.Message) { m.Size, m.Time = m.Time, m.Size },
		func(m *msg.Message) { m.Target, m.Code = m.Code, m.Target },
		func(m *msg.Message) { m.Deref = -2 },
		func(m *msg.Message) { m.TypesOnly = false },
		func(m *msg.Message) { m.DeleteOld = false },
		func(m *msg.Message) { m.HasSuperior = false },
		func(m *msg.Message) { m.Superior, m.NewRDN = m.NewRDN, m.Superior },
		func(m *msg.Message) { m.Attr, m.Value = m.Value, m.Attr },
		func(m *msg.Message) { m.Matched, m.Text = m.Text, m.Matched },
		func(m *msg.Message) { m.Text += "\x00" },
		func(m *msg.Message) { m.Filter.Kind = 0 },
		func(m *msg.Message) { m.Filter.Parts[0].Any[1] = "x" },
		func(m *msg.Message) { m.Filter.Parts = m.Filter.Parts[:1] },
		func(m *msg.Message) { m.Filter.Parts[1].Value = "" },
		func(m *msg.Message) { m.Attrs[1] = "h" },
		func(m *msg.Message) { m.Attrs = append(m.Attrs, "") },
		func(m *msg.Message) { m.Attrs, m.Refs = m.Refs, m.Attrs },
		func(m *msg.Message) { m.List[0].Type = "J" },
		func(m *msg.Message) { m.List[0].Values[1] = "L" },
		func(m *msg.Message) { m.List[1].Values = []string{""} },
		func(m *msg.Message) { m.List = m.List[:1] },
		func(m *msg.Message) { m.List[0], m.List[1] = m.List[1], m.List[0] },
		func(m *msg.Message) { m.Changes[0].Op = 0 },
		func(m *msg.Message) { m.Changes[0].Attr.Type = "" },
		func(m *msg.Message) { m.Changes[0].Attr.Values = nil },
		func(m *msg.Message) { m.Changes = append(m.Changes, api.Change{}) },
		func(m *msg.Message) { m.Refs = m.Refs[1:] },
		func(m *msg.Message) { m.Controls[0].OID = "" },
		func(m *msg.Message) { m.Controls[0].Critical = false },
		func(m *msg.Message) { m.Controls[0].HasValue = false },
		func(m *msg.Message) { m.Controls[0].Value = "" },
		func(m *msg.Message) { m.Controls = m.Controls[:1] },
	}
}

// R4: a list of no elements may be nil or empty.
func TestEmptyLists(t *testing.T) {
	empty := msg.Message{
		ID: 1, Kind: kindSearch, Filter: filter.Filter{Any: []string{}, Parts: []filter.Filter{}},
		Attrs: []string{}, List: []api.Attr{}, Changes: []api.Change{}, Refs: []string{}, Controls: []msg.Control{},
	}
	for kind := range int64(25) {
		bare := msg.Message{ID: 1, Kind: kind}
		empty.Kind = kind
		if !msg.Same(empty, bare) || !msg.Same(bare, empty) {
			t.Errorf("Same(%s): false", show(empty))
		}
		got, err := msg.Encode(empty)
		want, wantErr := msg.Encode(bare)
		if string(got) != string(want) || err != wantErr {
			t.Errorf("Encode(%s): %x, %v; not %x, %v", show(empty), got, err, want, wantErr)
		}
	}
	bare := msg.Message{ID: 1, Kind: kindAdd, List: []api.Attr{{Type: "a"}}}
	empty = msg.Message{ID: 1, Kind: kindAdd, List: []api.Attr{{Type: "a", Values: []string{}}}}
	got, _ := msg.Encode(empty)
	if want, err := msg.Encode(bare); string(got) != string(want) || err != api.OK || !msg.Same(empty, bare) {
		t.Errorf("Encode(%s): %x, %v; not %x", show(empty), got, err, want)
	}
}
