package msg_test

import (
	"math"
	"slices"
	"strings"
	"testing"
	"unsafe"

	"verger/api"
	"verger/filter"
	"verger/msg"
)

// belonging tells the fields that belong to a kind, and whether there is such
// a kind.
func belonging(kind int64) ([]string, bool) {
	text, ok := map[int64]string{
		kindBind:       "Version Name Password",
		kindUnbind:     "",
		kindSearch:     "Name Scope Deref Size Time TypesOnly Filter Attrs",
		kindModify:     "Name Changes",
		kindAdd:        "Name List",
		kindDelete:     "Name",
		kindModifyName: "Name NewRDN DeleteOld HasSuperior",
		kindCompare:    "Name Attr Value",
		kindAbandon:    "Target",
		kindEntry:      "Name List",
		kindReference:  "Refs",
	}[kind]
	for _, a := range answers() {
		if a.kind == kind {
			text, ok = "Code Matched Text Refs", true
		}
	}
	return append(strings.Fields(text), "Controls"), ok
}

// bare is a message of a kind that has no more than it must have.
func bare(kind int64) msg.Message {
	m := msg.Message{ID: 1, Kind: kind}
	if kind == kindReference {
		m.Refs = []string{"a"}
	}
	return m
}

// holdFormed holds Encode to whether a message is formed, and Decode to undo
// it (P8.2).
func holdFormed(t *testing.T, m msg.Message, formed bool) {
	t.Helper()
	b, err := msg.Encode(m)
	if !formed {
		if len(b) != 0 || err != api.ErrArg {
			t.Errorf("Encode(%s): %.80x, %v", show(m), b, err)
		}
		return
	}
	if len(b) == 0 || len(b) > api.MaxPDU || err != api.OK {
		t.Errorf("Encode(%s): %d bytes, %v", show(m), len(b), err)
	}
	if back, err := msg.Decode(b); !msg.Same(back, m) || err != api.OK {
		t.Errorf("Decode(%.80x): %s, %v; not %s", b, show(back), err, show(m))
	}
}

// P8.1: the kinds, and what belongs to each; all else has to be zero.
func TestBelonging(t *testing.T) {
	kinds := []int64{math.MinInt64, math.MinInt32, -256, -1, 1 << 8, 1<<8 + 2, 1<<8 + 10, 1<<31 + 3, 1 << 32, 1<<32 + 3, math.MaxInt64}
	for kind := range int64(300) {
		kinds = append(kinds, kind)
	}
	for _, kind := range kinds {
		names, known := belonging(kind)
		holdFormed(t, bare(kind), known)
		for _, f := range fields() {
			m := bare(kind)
			f.put(&m)
			holdFormed(t, m, known && slices.Contains(names, f.name))
		}
	}
}

// P8.1: a Superior without HasSuperior, and a control's Value without
// HasValue, would be lost.
func TestWithoutFlag(t *testing.T) {
	m := msg.Message{ID: 1, Kind: kindModifyName, NewRDN: "o=a", Superior: "o=b"}
	holdFormed(t, m, false)
	m.HasSuperior = true
	holdFormed(t, m, true)
	m.Superior = ""
	holdFormed(t, m, true)
	m = msg.Message{ID: 1, Kind: kindUnbind, Controls: []msg.Control{{OID: "1"}, {OID: "2", Value: "a"}}}
	holdFormed(t, m, false)
	m.Controls[1].HasValue = true
	holdFormed(t, m, true)
	m.Controls[1].Value = ""
	holdFormed(t, m, true)
}

// P8.1: a reference has a Ref.
func TestReference(t *testing.T) {
	holdFormed(t, msg.Message{ID: 1, Kind: kindReference}, false)
	holdFormed(t, msg.Message{ID: 1, Kind: kindReference, Refs: []string{}}, false)
	holdFormed(t, msg.Message{ID: 1, Kind: kindReference, Refs: []string{""}}, true)
}

// P8.1: the bounds of all numbers.
func TestNumbers(t *testing.T) {
	for _, c := range []struct {
		name string
		kind int64
		most int64
		at   func(m *msg.Message) *int64
	}{
		{"ID", kindUnbind, most, func(m *msg.Message) *int64 { return &m.ID }},
		{"Version", kindBind, 127, func(m *msg.Message) *int64 { return &m.Version }},
		{"Scope", kindSearch, 2, func(m *msg.Message) *int64 { return &m.Scope }},
		{"Deref", kindSearch, 3, func(m *msg.Message) *int64 { return &m.Deref }},
		{"Size", kindSearch, most, func(m *msg.Message) *int64 { return &m.Size }},
		{"Time", kindSearch, most, func(m *msg.Message) *int64 { return &m.Time }},
		{"Target", kindAbandon, most, func(m *msg.Message) *int64 { return &m.Target }},
		{"Code", 5, most, func(m *msg.Message) *int64 { return &m.Code }},
		{"Code", kindNotice, most, func(m *msg.Message) *int64 { return &m.Code }},
	} {
		for _, n := range []int64{math.MinInt64, -1 << 31, -256, -129, -128, -2, -1, 0, 1, 2, 3, 4, 126, 127, 128, 255, 256, 1 << 15, 1 << 16, 1 << 24, most - 1, most, most + 1, 1 << 32, 1<<32 + 1, math.MaxInt64} {
			m := msg.Message{Kind: c.kind}
			*c.at(&m) = n
			holdFormed(t, m, n >= 0 && n <= c.most)
		}
	}
	for _, op := range []int{math.MinInt, -1, 0, 1, 2, 3, 4, 127, 255, 256, 1 << 31, 1 << 32, 1<<32 + 1, math.MaxInt} {
		m := msg.Message{Kind: kindModify, Changes: []api.Change{{Op: 0, Attr: attr("a")}, {Op: op, Attr: attr("a", "b")}}}
		holdFormed(t, m, op >= 0 && op <= 3)
	}
}

// withText are messages that have a text in every place where one may stand.
func withText(s string) []msg.Message {
	list := []msg.Message{
		{Kind: kindBind, Name: s}, {Kind: kindBind, Password: s}, {Kind: kindSearch, Name: s}, {Kind: kindSearch, Attrs: []string{"a", s}},
		{Kind: kindModify, Name: s}, {Kind: kindModify, Changes: []api.Change{{}, {Attr: attr(s)}}}, {Kind: kindModify, Changes: []api.Change{{Attr: attr("a", "", s)}}},
		{Kind: kindAdd, Name: s}, {Kind: kindAdd, List: []api.Attr{attr(s)}}, {Kind: kindAdd, List: []api.Attr{attr("a"), attr("a", "", s)}},
		{Kind: kindDelete, Name: s}, {Kind: kindModifyName, Name: s}, {Kind: kindModifyName, NewRDN: s}, {Kind: kindModifyName, HasSuperior: true, Superior: s},
		{Kind: kindCompare, Name: s}, {Kind: kindCompare, Attr: s}, {Kind: kindCompare, Value: s},
		{Kind: kindEntry, Name: s}, {Kind: kindEntry, List: []api.Attr{attr(s, s)}}, {Kind: kindReference, Refs: []string{"", s}},
		{Controls: []msg.Control{{OID: "a"}, {OID: s}}}, {Kind: kindUnbind, Controls: []msg.Control{{HasValue: true, Value: s}}},
	}
	for _, a := range answers() {
		list = append(list, msg.Message{Kind: a.kind, Matched: s}, msg.Message{Kind: a.kind, Text: s}, msg.Message{Kind: a.kind, Refs: []string{s, ""}})
	}
	return list
}

// P8.1: no text is longer than MaxText; what bytes it has is free.
func TestTexts(t *testing.T) {
	for _, size := range []int{1, 127, 128, 255, 256, api.MaxText - 1, api.MaxText, api.MaxText + 1, api.MaxText + 256, 5000, 65536 + 1} {
		for _, letter := range []string{"a", "\x00", "\xff", "0"} {
			for _, m := range withText(strings.Repeat(letter, size)) {
				holdFormed(t, m, size <= api.MaxText)
			}
		}
	}
}

// nested is a filter that is nested so deep.
func nested(depth int) filter.Filter {
	f := present()
	for range depth - 1 {
		f = filter.Filter{Kind: 2, Parts: []filter.Filter{f}}
	}
	return f
}

// wide is a filter in which so many stand.
func wide(count int) filter.Filter {
	return filter.Filter{Kind: 1, Parts: slices.Repeat([]filter.Filter{present()}, count-1)}
}

// endless is a filter that stands in itself.
func endless() filter.Filter {
	f := filter.Filter{Parts: make([]filter.Filter, 2)}
	f.Parts[0], f.Parts[1] = f, f
	return f
}

// P8.1, R1: the filter is formed; if it isn't, no kind may have it.
func TestFilters(t *testing.T) {
	full, over := strings.Repeat("a", api.MaxValue), strings.Repeat("a", api.MaxValue+1)
	for _, f := range []filter.Filter{
		{}, {Kind: 1}, present(), nested(api.MaxNest), wide(api.MaxFilter),
		{Kind: 2, Parts: []filter.Filter{{}}}, {Kind: 3, Attr: strings.Repeat("a", 40), Value: full},
		{Kind: 4, Attr: "cn", First: full, Any: []string{full, full}, Last: full},
		{Kind: 4, Attr: "cn", Any: slices.Repeat([]string{"a"}, 5000)},
	} {
		holdFormed(t, search(f), true)
	}
	for _, f := range []filter.Filter{
		{Kind: -1}, {Kind: 9}, {Kind: 256}, {Kind: 2}, {Kind: 2, Parts: []filter.Filter{{}, {}}}, {Kind: 1, Attr: "cn"},
		{Kind: 3, Attr: "cn"}, {Kind: 3, Value: "a"}, {Kind: 3, Attr: "cn", Value: over}, {Kind: 3, Attr: "9", Value: "a"},
		{Kind: 3, Attr: "cn", Value: "a", Parts: []filter.Filter{{}}}, {Kind: 5, Attr: "cn", Value: "a", First: "b"},
		{Kind: 4, Attr: "cn"}, {Kind: 4, Attr: "cn", Any: []string{""}}, {Kind: 4, Attr: "cn", First: over}, {Kind: 4, Attr: "cn", First: "a", Value: "b"},
		{Kind: 7}, {Kind: 7, Attr: strings.Repeat("a", 41)}, {Kind: 7, Attr: "cn", Value: "a"}, {Kind: 8, Attr: "cn", Any: []string{"a"}, Value: "a"},
		nested(api.MaxNest + 1), nested(1 << 16), wide(api.MaxFilter + 1), endless(),
	} {
		for kind := range int64(26) {
			m := bare(kind)
			m.Filter = f
			holdFormed(t, m, false)
			m.Filter = filter.Filter{Parts: []filter.Filter{f}}
			holdFormed(t, m, false)
		}
	}
}

// exact is a message with just so many bytes; size is from 16323 on.
func exact(size int) msg.Message {
	refs := slices.Repeat([]string{strings.Repeat("a", api.MaxText)}, 16)
	// The tags and lengths, and the ID, take 11 bytes, a long text's 4.
	return msg.Message{ID: 1, Kind: kindReference, Refs: append(refs, strings.Repeat("b", size-11-16*(4+api.MaxText)-4))}
}

// P8.1: all bytes of a message are at most MaxPDU.
func TestTooLong(t *testing.T) {
	for size := api.MaxPDU - 3; size <= api.MaxPDU; size++ {
		if b, err := msg.Encode(exact(size)); len(b) != size || err != api.OK {
			t.Errorf("Encode: %d bytes, %v; not %d bytes", len(b), err, size)
		}
		holdFormed(t, exact(size), true)
	}
	holdFormed(t, exact(api.MaxPDU+1), false)
	holdFormed(t, exact(api.MaxPDU+200), false)
	m := exact(api.MaxPDU)
	m.ID = 128
	holdFormed(t, m, false)
	m = exact(api.MaxPDU)
	m.Controls = []msg.Control{{}}
	holdFormed(t, m, false)
}

// R1: where a message is much too long, no more than a piece of it is ever
// written.
func TestMuchTooLong(t *testing.T) {
	texts := make([]string, 1<<20)
	wide := slices.Repeat([]api.Attr{{Values: texts}}, 1<<20)
	for _, m := range []msg.Message{
		{Kind: kindSearch, Attrs: texts}, {Kind: kindAdd, List: wide}, {Kind: kindEntry, List: wide[:1]},
		{Kind: kindModify, Changes: slices.Repeat([]api.Change{{Attr: api.Attr{Values: texts}}}, 1<<18)},
		{Kind: kindReference, Refs: texts}, {Kind: 1, Refs: texts}, {Controls: make([]msg.Control, 1<<18)},
		search(filter.Filter{Kind: 4, Attr: "cn", Any: slices.Repeat([]string{"a"}, 1<<20)}),
		{Kind: kindUnbind, List: wide}, {Kind: 77, List: wide},
	} {
		if b, err := msg.Encode(m); len(b) != 0 || err != api.ErrArg {
			t.Errorf("Encode of kind %d: %d bytes, %v", m.Kind, len(b), err)
		}
	}
}

// R3: a message that is handed in is left as it is, its spare room too, and
// what is answered shares nothing with it, or with another answer.
func TestMemoryOfEncode(t *testing.T) {
	room := []byte("type#value#")
	texts := []string{"ahead", unsafe.String(&room[0], 4), unsafe.String(&room[5], 5), "behind"}
	list := []api.Attr{attr("ahead"), {Type: texts[1], Values: texts[1:3]}, attr("behind", "x")}
	m := msg.Message{ID: 1, Kind: kindAdd, List: list[1:2]}
	b, err := msg.Encode(m)
	other, _ := msg.Encode(m)
	want := string(b)
	if !slices.Equal(texts, []string{"ahead", "type", "value", "behind"}) || list[0].Type != "ahead" || !slices.Equal(list[2].Values, []string{"x"}) || err != api.OK {
		t.Errorf("changed to %q, %v, %v", texts, list, err)
	}
	copy(room, "EPYT#EULAV#")
	if string(b) != want {
		t.Errorf("kept: %x", b)
	}
	clear(b[:cap(b)])
	if string(other) != want || string(room) != "EPYT#EULAV#" {
		t.Errorf("shared: %x, %q", other, room)
	}
}
