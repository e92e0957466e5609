package msg

import (
	"verger/api"
	"verger/ber"
	"verger/filter"
)

// What the numbers of a message are at most.
const (
	mostNumber  = 1<<31 - 1
	mostVersion = 127
	mostScope   = api.Sub
	mostDeref   = api.Always
	mostOp      = 3
)

// Decode tells the message whose bytes b is, as they may be read.
func Decode(b []byte) (Message, api.Errno) {
	if len(b) > api.MaxPDU {
		return Message{}, api.ErrLong
	}
	var m Message
	fault := false
	readFields(b, &fault, func(r *reader) {
		r.inner(listTag, func(in *reader) { m = in.message() })
	})
	if fault {
		return Message{}, api.ErrForm
	}
	return m, api.OK
}

// reader reads the fields of a content, one behind the other. The first fault
// that it finds, or that one finds which reads a field's content, stops all of
// them; what is read beside a fault means nothing.
type reader struct {
	tags     []byte
	contents [][]byte
	fault    *bool
}

// readFields has all of a content's fields read.
func readFields(content []byte, fault *bool, read func(*reader)) {
	tags, contents, err := ber.List(content)
	r := &reader{tags, contents, fault}
	if err != api.OK {
		r.fail()
	}
	read(r)
	if r.more() {
		r.fail()
	}
}

func (r *reader) fail() {
	*r.fault = true
}

// more tells whether there is a field left to read.
func (r *reader) more() bool {
	return !*r.fault && len(r.tags) > 0
}

// next tells whether the field to read has that tag.
func (r *reader) next(tag byte) bool {
	return r.more() && r.tags[0] == tag
}

// take reads a field, which should have that tag.
func (r *reader) take(tag byte) []byte {
	if !r.next(tag) {
		r.fail()
		return nil
	}
	content := r.contents[0]
	r.tags, r.contents = r.tags[1:], r.contents[1:]
	return content
}

// inner has all of the fields read that stand in a field.
func (r *reader) inner(tag byte, read func(*reader)) {
	readFields(r.take(tag), r.fault, read)
}

func (r *reader) text() string {
	return r.tagged(textTag)
}

func (r *reader) tagged(tag byte) string {
	content := r.take(tag)
	if len(content) > api.MaxText {
		r.fail()
	}
	return string(content)
}

func (r *reader) number(tag byte, most int64) int64 {
	n, err := ber.ToInt(r.take(tag))
	if err != api.OK || n < 0 || n > most {
		r.fail()
	}
	return n
}

func (r *reader) flag() bool {
	b, err := ber.ToBool(r.take(boolTag))
	if err != api.OK {
		r.fail()
	}
	return b
}

// readList reads the members of a list, which stand in a field.
func readList[T any](r *reader, tag byte, read func(*reader) T) []T {
	var list []T
	r.inner(tag, func(in *reader) {
		for in.more() {
			list = append(list, read(in))
		}
	})
	return list
}

// readSome is readList of one that isn't written where it has no members.
func readSome[T any](r *reader, tag byte, read func(*reader) T) []T {
	list := readList(r, tag, read)
	if len(list) == 0 {
		r.fail()
	}
	return list
}

func (r *reader) message() Message {
	var m Message
	m.ID = r.number(intTag, mostNumber)
	r.operation(&m)
	if r.more() {
		m.Controls = readSome(r, controlsTag, (*reader).control)
	}
	return m
}

// operation reads a message's operation, which tells its kind.
func (r *reader) operation(m *Message) {
	if !r.more() {
		r.fail()
		return
	}
	tag := r.tags[0]
	m.Kind = int64(tag & kindBits)
	if operationTag(m.Kind) != tag {
		r.fail()
		return
	}
	switch m.Kind {
	case remove:
		m.Name = r.tagged(tag)
	case abandon:
		m.Target = r.number(tag, mostNumber)
	case reference:
		m.Refs = readSome(r, tag, (*reader).text)
	default:
		r.inner(tag, func(in *reader) { in.content(m) })
	}
}

// content reads the fields that stand in an operation.
func (r *reader) content(m *Message) {
	switch m.Kind {
	case unbind:
	case bind:
		m.Version = r.number(intTag, mostVersion)
		m.Name = r.text()
		m.Password = r.tagged(passwordTag)
	case search:
		r.search(m)
	case modify:
		m.Name = r.text()
		m.Changes = readList(r, listTag, (*reader).change)
	case add, entry:
		m.Name = r.text()
		m.List = readList(r, listTag, (*reader).attr)
	case modifyName:
		r.modifyName(m)
	case compare:
		m.Name = r.text()
		r.inner(listTag, func(in *reader) {
			m.Attr = in.text()
			m.Value = in.text()
		})
	case bindAnswer, searchAnswer, modifyAnswer, addAnswer, removeAnswer, modifyNameAnswer, compareAnswer, notice:
		r.result(m)
	default:
		r.fail()
	}
}

func (r *reader) search(m *Message) {
	m.Name = r.text()
	m.Scope = r.number(enumTag, mostScope)
	m.Deref = r.number(enumTag, mostDeref)
	m.Size = r.number(intTag, mostNumber)
	m.Time = r.number(intTag, mostNumber)
	m.TypesOnly = r.flag()
	m.Filter = r.filter(api.MaxNest)
	if !filter.Formed(m.Filter) {
		r.fail()
	}
	m.Attrs = readList(r, listTag, (*reader).text)
}

func (r *reader) modifyName(m *Message) {
	m.Name = r.text()
	m.NewRDN = r.text()
	m.DeleteOld = r.flag()
	if r.more() {
		m.HasSuperior = true
		m.Superior = r.tagged(superiorTag)
	}
}

func (r *reader) result(m *Message) {
	m.Code = r.number(enumTag, mostNumber)
	m.Matched = r.text()
	m.Text = r.text()
	if r.more() {
		m.Refs = readSome(r, refsTag, (*reader).text)
	}
}

func (r *reader) control() Control {
	var c Control
	r.inner(listTag, func(in *reader) {
		c.OID = in.text()
		if in.next(boolTag) {
			c.Critical = in.flag()
		}
		if in.more() {
			c.HasValue = true
			c.Value = in.text()
		}
	})
	return c
}

func (r *reader) change() api.Change {
	var c api.Change
	r.inner(listTag, func(in *reader) {
		c.Op = int(in.number(enumTag, mostOp))
		c.Attr = in.attr()
	})
	return c
}

func (r *reader) attr() api.Attr {
	var a api.Attr
	r.inner(listTag, func(in *reader) {
		a.Type = in.text()
		a.Values = readList(in, valuesTag, (*reader).text)
	})
	return a
}

// filter reads a filter that is nested at most so deep: one that is deeper
// isn't formed, and each level would be copied once more. Whether it is formed
// else is left to layer 7.
func (r *reader) filter(depth int) filter.Filter {
	if depth == 0 || !r.more() {
		r.fail()
		return filter.Filter{}
	}
	tag := r.tags[0]
	if tag == presentTag {
		return filter.Filter{Kind: filterPresent, Attr: r.tagged(tag)}
	}
	f := filter.Filter{Kind: int(tag) - filterTag}
	r.inner(tag, func(in *reader) {
		switch f.Kind {
		case filterAnd, filterOr, filterNot:
			for in.more() {
				f.Parts = append(f.Parts, in.filter(depth-1))
			}
		case filterSubstrings:
			f.Attr = in.text()
			in.inner(listTag, func(pieces *reader) { pieces.pieces(&f) })
		case filterEqual, filterAtLeast, filterAtMost, filterNear:
			f.Attr = in.text()
			f.Value = in.text()
		default:
			in.fail()
		}
	})
	return f
}

func (r *reader) pieces(f *filter.Filter) {
	if r.next(firstTag) {
		f.First = r.piece(firstTag)
	}
	for r.next(anyTag) {
		f.Any = append(f.Any, r.piece(anyTag))
	}
	if r.next(lastTag) {
		f.Last = r.piece(lastTag)
	}
}

// piece reads a piece, which isn't written where it is none.
func (r *reader) piece(tag byte) string {
	piece := r.tagged(tag)
	if piece == "" {
		r.fail()
	}
	return piece
}
