package msg

import (
	"slices"

	"verger/api"
	"verger/ber"
	"verger/filter"
)

// Encode tells a message's bytes.
func Encode(m Message) ([]byte, api.Errno) {
	// Of a filter that isn't formed there might be no end.
	if !filter.Formed(m.Filter) {
		return nil, api.ErrArg
	}
	b := writeMessage(m)
	// Where a message isn't formed, its bytes are none's, or they leave
	// something out: what doesn't belong to its kind.
	back, err := Decode(b)
	if err != api.OK || !Same(back, m) {
		return nil, api.ErrArg
	}
	return b, api.OK
}

// writeMessage tells the bytes of a message that has a formed filter, be it
// formed itself or not.
func writeMessage(m Message) []byte {
	content := slices.Concat(
		writeNumber(intTag, m.ID),
		ber.Field(operationTag(m.Kind), writeContent(m)))
	if len(m.Controls) > 0 {
		content = append(content, writeList(controlsTag, m.Controls, writeControl)...)
	}
	return ber.Field(listTag, content)
}

// writeContent tells the content of a message's operation.
func writeContent(m Message) []byte {
	switch m.Kind {
	case unbind:
		return nil
	case bind:
		return slices.Concat(writeNumber(intTag, m.Version), writeText(m.Name), writeTagged(passwordTag, m.Password))
	case search:
		return writeSearch(m)
	case modify:
		return slices.Concat(writeText(m.Name), writeList(listTag, m.Changes, writeChange))
	case add, entry:
		return slices.Concat(writeText(m.Name), writeList(listTag, m.List, writeAttr))
	case remove:
		return []byte(m.Name)
	case modifyName:
		return writeModifyName(m)
	case compare:
		return slices.Concat(writeText(m.Name), writeFields(listTag, writeText(m.Attr), writeText(m.Value)))
	case abandon:
		return ber.Int(m.Target)
	case reference:
		return writeEach(m.Refs, writeText)
	}
	return writeResult(m)
}

func writeSearch(m Message) []byte {
	return slices.Concat(
		writeText(m.Name),
		writeNumber(enumTag, m.Scope),
		writeNumber(enumTag, m.Deref),
		writeNumber(intTag, m.Size),
		writeNumber(intTag, m.Time),
		writeFlag(m.TypesOnly),
		writeFilter(m.Filter),
		writeList(listTag, m.Attrs, writeText))
}

func writeModifyName(m Message) []byte {
	content := slices.Concat(writeText(m.Name), writeText(m.NewRDN), writeFlag(m.DeleteOld))
	if m.HasSuperior {
		content = append(content, writeTagged(superiorTag, m.Superior)...)
	}
	return content
}

func writeResult(m Message) []byte {
	content := slices.Concat(writeNumber(enumTag, m.Code), writeText(m.Matched), writeText(m.Text))
	if len(m.Refs) > 0 {
		content = append(content, writeList(refsTag, m.Refs, writeText)...)
	}
	return content
}

func writeControl(c Control) []byte {
	content := writeText(c.OID)
	if c.Critical {
		content = append(content, writeFlag(true)...)
	}
	if c.HasValue {
		content = append(content, writeText(c.Value)...)
	}
	return ber.Field(listTag, content)
}

func writeChange(c api.Change) []byte {
	return writeFields(listTag, writeNumber(enumTag, int64(c.Op)), writeAttr(c.Attr))
}

func writeAttr(a api.Attr) []byte {
	return writeFields(listTag, writeText(a.Type), writeList(valuesTag, a.Values, writeText))
}

// writeFilter tells the field of a formed filter.
func writeFilter(f filter.Filter) []byte {
	tag := filterTag + byte(f.Kind)
	switch f.Kind {
	case filterAnd, filterOr, filterNot:
		return writeList(tag, f.Parts, writeFilter)
	case filterSubstrings:
		return writeFields(tag, writeText(f.Attr), writePieces(f))
	case filterPresent:
		return writeTagged(presentTag, f.Attr)
	}
	return writeFields(tag, writeText(f.Attr), writeText(f.Value))
}

func writePieces(f filter.Filter) []byte {
	var content []byte
	if f.First != "" {
		content = writeTagged(firstTag, f.First)
	}
	writeAny := func(piece string) []byte { return writeTagged(anyTag, piece) }
	content = append(content, writeEach(f.Any, writeAny)...)
	if f.Last != "" {
		content = append(content, writeTagged(lastTag, f.Last)...)
	}
	return ber.Field(listTag, content)
}

func writeText(s string) []byte {
	return writeTagged(textTag, s)
}

func writeTagged(tag byte, s string) []byte {
	return ber.Field(tag, []byte(s))
}

func writeNumber(tag byte, n int64) []byte {
	return ber.Field(tag, ber.Int(n))
}

func writeFlag(b bool) []byte {
	return ber.Field(boolTag, ber.Bool(b))
}

func writeFields(tag byte, fields ...[]byte) []byte {
	return ber.Field(tag, slices.Concat(fields...))
}

func writeList[T any](tag byte, list []T, write func(T) []byte) []byte {
	return ber.Field(tag, writeEach(list, write))
}

// writeEach tells the fields of a list's members, one behind the other. It
// leaves out the last ones where the message is too long without them already.
func writeEach[T any](list []T, write func(T) []byte) []byte {
	var fields []byte
	for _, member := range list {
		if len(fields) > api.MaxPDU {
			break
		}
		fields = append(fields, write(member)...)
	}
	return fields
}
