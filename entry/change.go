package entry

import (
	"slices"
	"strconv"
	"strings"

	"verger/api"
	"verger/dn"
	"verger/phasor"
	"verger/rule"
)

// What a change may do: its Op.
const (
	addValues = iota
	deleteValues
	replaceValues
	incrementValues
)

// The syntaxes of layer 4 whose values can be added up.
const (
	integerSyntax = 3
	planeSyntax   = 4
)

// Make tells the entry of that name that has these attributes.
func Make(name string, attrs []api.Attr) (api.Entry, int) {
	normal, ok := normalName(name)
	if !ok {
		return api.Entry{}, api.InvalidDNSyntax
	}
	d := draftOf(nil)
	for _, attr := range attrs {
		if code := d.gather(attr); code != api.Success {
			return api.Entry{}, code
		}
	}
	return d.entry(normal, api.NamingViolation)
}

// gather puts the values of an attribute that Make is given behind those of
// its type that came ahead.
func (d *draft) gather(attr api.Attr) int {
	name, syntax := rule.Type(attr.Type)
	if syntax == noSyntax {
		return api.UndefinedAttributeType
	}
	if len(attr.Values) == 0 {
		return api.ConstraintViolation
	}
	for _, value := range attr.Values {
		normal, err := dn.Value(name, value)
		if err != api.OK {
			return api.InvalidAttributeSyntax
		}
		if !d.put(name, form{value, normal}) {
			return api.AttributeOrValueExists
		}
	}
	return api.Success
}

// Modify tells what the changes, one after the other, make of an entry.
func Modify(e api.Entry, list []api.Change) (api.Entry, int) {
	if !Formed(e) {
		return api.Entry{}, api.OperationsError
	}
	d := draftOf(e.Attrs)
	for _, change := range list {
		if code := d.change(change); code != api.Success {
			return api.Entry{}, code
		}
	}
	return d.entry(strings.Clone(e.Name), api.NotAllowedOnRDN)
}

// change makes one change.
func (d *draft) change(c api.Change) int {
	name, syntax := rule.Type(c.Attr.Type)
	if syntax == noSyntax {
		return api.UndefinedAttributeType
	}
	if c.Op < addValues || c.Op > incrementValues {
		return api.ProtocolError
	}
	forms, ok := formsOf(name, c.Attr.Values)
	if !ok {
		return api.InvalidAttributeSyntax
	}
	switch c.Op {
	case addValues:
		return d.add(name, forms)
	case deleteValues:
		return d.remove(name, forms)
	case replaceValues:
		return d.replace(name, forms)
	}
	return d.increment(name, syntax, forms)
}

// formsOf tells values with their normal forms, and whether all have one.
func formsOf(name string, values []string) ([]form, bool) {
	forms := make([]form, 0, len(values))
	for _, value := range values {
		normal, err := dn.Value(name, value)
		if err != api.OK {
			return nil, false
		}
		forms = append(forms, form{value, normal})
	}
	return forms, true
}

func (d *draft) add(name string, forms []form) int {
	if len(forms) == 0 {
		return api.ConstraintViolation
	}
	if !d.putAll(name, forms) {
		return api.AttributeOrValueExists
	}
	return api.Success
}

func (d *draft) remove(name string, forms []form) int {
	if !d.hasType(name) {
		return api.NoSuchAttribute
	}
	if len(forms) == 0 {
		d.dropType(name)
	}
	for _, f := range forms {
		if !d.drop(name, f.normal) {
			return api.NoSuchAttribute
		}
	}
	return api.Success
}

func (d *draft) replace(name string, forms []form) int {
	d.dropType(name)
	if !d.putAll(name, forms) {
		return api.AttributeOrValueExists
	}
	return api.Success
}

// increment adds one value to each of a type's. No two sums are alike, since no
// two of the values are.
func (d *draft) increment(name string, syntax int, forms []form) int {
	if syntax != integerSyntax && syntax != planeSyntax || len(forms) != 1 {
		return api.ConstraintViolation
	}
	if !d.hasType(name) {
		return api.NoSuchAttribute
	}
	sums := make(map[string]held, len(d.types[name]))
	for normal, h := range d.types[name] {
		sum, ok := plus(name, syntax, normal, forms[0].normal)
		if !ok {
			return api.ConstraintViolation
		}
		sums[sum] = held{value: sum, place: h.place}
	}
	d.types[name] = sums
	return api.Success
}

// plus tells the sum of two normal forms, and whether it is a value.
func plus(name string, syntax int, a, b string) (string, bool) {
	if syntax == planeSyntax {
		return plusPlane(a, b)
	}
	// Values have so few digits that no sum of two is beyond an int64.
	m, _ := strconv.ParseInt(a, 10, 64)
	n, _ := strconv.ParseInt(b, 10, 64)
	sum := strconv.FormatInt(m+n, 10)
	_, err := rule.Normal(name, sum)
	return sum, err == api.OK
}

func plusPlane(a, b string) (string, bool) {
	z, _ := phasor.Parse(a)
	w, _ := phasor.Parse(b)
	sum, err := phasor.Add(z, w)
	if err != api.OK {
		return "", false
	}
	text, err := phasor.Print(sum)
	return text, err == api.OK
}

// Rename tells what becomes of an entry under another name.
func Rename(e api.Entry, to string, deleteOld bool) (api.Entry, int) {
	if !Formed(e) {
		return api.Entry{}, api.OperationsError
	}
	name, ok := normalName(to)
	if !ok {
		return api.Entry{}, api.InvalidDNSyntax
	}
	d := draftOf(e.Attrs)
	d.takePart(to)
	if deleteOld {
		d.leavePart(e.Name, name)
	}
	return d.entry(name, api.NamingViolation)
}

// takePart puts in what a name's first part says and isn't there, as it is
// written in the name.
func (d *draft) takePart(name string) {
	for _, pair := range firstPart(name) {
		normal, _ := dn.Value(pair.Type, pair.Value)
		d.put(pair.Type, form{pair.Value, normal})
	}
}

// leavePart takes out what the first part of the name from says and that of the
// name to doesn't. Both are normal texts, whose values are normal forms.
func (d *draft) leavePart(from, to string) {
	kept := firstPart(to)
	for _, pair := range firstPart(from) {
		if !slices.Contains(kept, pair) {
			d.drop(pair.Type, pair.Value)
		}
	}
}
