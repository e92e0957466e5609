package entry

import (
	"cmp"
	"maps"
	"slices"
	"strings"

	"verger/api"
	"verger/rule"
)

// draft is an entry's attributes while they are made or changed: of each type,
// by its name, the values, by their normal forms, so that a change costs no more
// than the values it brings. A type without values isn't there.
type draft struct {
	types map[string]map[string]held
	// next is the place of the value that comes next, of whatever type.
	next int
}

// held is a value as it is written, and its place among those of its type.
type held struct {
	value string
	place int
}

// form is a value as it is written, and its normal form.
type form struct {
	value, normal string
}

// draftOf tells the draft of a formed entry's attributes.
func draftOf(attrs []api.Attr) *draft {
	d := &draft{types: map[string]map[string]held{}}
	for _, attr := range attrs {
		// The name that layer 4 tells is no memory of the entry's.
		name, _ := rule.Type(attr.Type)
		forms, _ := formsOf(name, attr.Values)
		d.putAll(name, forms)
	}
	return d
}

func (d *draft) hasType(name string) bool {
	return len(d.types[name]) > 0
}

func (d *draft) has(name, normal string) bool {
	_, ok := d.types[name][normal]
	return ok
}

// put puts a value behind the others of its type, if none is alike, and tells
// whether none was.
func (d *draft) put(name string, f form) bool {
	if d.has(name, f.normal) {
		return false
	}
	if d.types[name] == nil {
		d.types[name] = map[string]held{}
	}
	d.types[name][f.normal] = held{value: f.value, place: d.next}
	d.next++
	return true
}

// putAll puts values behind the others of their type, up to the first that is
// alike one there, and tells whether none was.
func (d *draft) putAll(name string, forms []form) bool {
	for _, f := range forms {
		if !d.put(name, f) {
			return false
		}
	}
	return true
}

// drop takes a value out, and tells whether it was there.
func (d *draft) drop(name, normal string) bool {
	if !d.has(name, normal) {
		return false
	}
	delete(d.types[name], normal)
	return true
}

func (d *draft) dropType(name string) {
	delete(d.types, name)
}

// entry tells the entry of that name, a normal text, that the draft has come
// to; the code misnamed, if it hasn't what its name says.
func (d *draft) entry(name string, misnamed int) (api.Entry, int) {
	for _, values := range d.types {
		if len(values) > api.MaxValues {
			return api.Entry{}, api.ConstraintViolation
		}
	}
	if !d.hasType(classType) {
		return api.Entry{}, api.ObjectClassViolation
	}
	// In a normal text the values are normal forms.
	for _, pair := range firstPart(name) {
		if !d.has(pair.Type, pair.Value) {
			return api.Entry{}, misnamed
		}
	}
	return api.Entry{Name: name, Attrs: d.attrs()}, api.Success
}

// attrs tells the attributes in the order of their types' names, and the values
// of each in the order of their places.
func (d *draft) attrs() []api.Attr {
	var list []api.Attr
	for _, name := range slices.Sorted(maps.Keys(d.types)) {
		if d.hasType(name) {
			list = append(list, api.Attr{Type: name, Values: inOrder(d.types[name])})
		}
	}
	return list
}

func inOrder(values map[string]held) []string {
	sorted := slices.SortedFunc(maps.Values(values), func(a, b held) int {
		return cmp.Compare(a.place, b.place)
	})
	list := make([]string, 0, len(sorted))
	for _, h := range sorted {
		list = append(list, strings.Clone(h.value))
	}
	return list
}
