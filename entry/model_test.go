package entry_test

import (
	"fmt"
	"math/big"
	"math/rand"
	"slices"
	"strings"
	"testing"

	"verger/api"
	"verger/dn"
	"verger/entry"
	"verger/phasor"
	"verger/rule"
)

// model is an entry's attributes as plain lists, in no order of types.
type model []api.Attr

// find tells where the attribute of a type is; -1, if nowhere.
func (m model) find(typ string) int {
	return slices.IndexFunc(m, func(a api.Attr) bool { return a.Type == typ })
}

// place tells where among a type's values one alike that one is; -1, if
// nowhere.
func (m model) place(typ, value string) int {
	at := m.find(typ)
	if at < 0 {
		return -1
	}
	wanted, _ := dn.Value(typ, value)
	return slices.IndexFunc(m[at].Values, func(own string) bool {
		normal, _ := dn.Value(typ, own)
		return normal == wanted
	})
}

// with puts a value at the end of its type's.
func (m model) with(typ, value string) model {
	at := m.find(typ)
	if at < 0 {
		return append(m, attr(typ, value))
	}
	m[at].Values = append(m[at].Values, value)
	return m
}

// without takes out a value; and its attribute, if that has no more.
func (m model) without(typ string, place int) model {
	at := m.find(typ)
	m[at].Values = slices.Delete(m[at].Values, place, place+1)
	if len(m[at].Values) == 0 {
		return slices.Delete(m, at, at+1)
	}
	return m
}

func modelOf(e api.Entry) model {
	return model(again(e).Attrs)
}

// pairs are those of a name's first part, as they are written.
func pairs(name string) [][2]string {
	n, _ := dn.Parse(name)
	var list [][2]string
	for _, pair := range n.Parts[0] {
		list = append(list, [2]string{pair.Type, pair.Value})
	}
	return list
}

// end is what is asked at the end, of Make, Modify and Rename.
func (m model) end(name string, misnamed int) (api.Entry, int) {
	for _, a := range m {
		if len(a.Values) > api.MaxValues {
			return api.Entry{}, api.ConstraintViolation
		}
	}
	if m.find("objectClass") < 0 {
		return api.Entry{}, api.ObjectClassViolation
	}
	for _, pair := range pairs(name) {
		if m.place(pair[0], pair[1]) < 0 {
			return api.Entry{}, misnamed
		}
	}
	slices.SortFunc(m, func(a, b api.Attr) int { return strings.Compare(a.Type, b.Type) })
	normal, _ := dn.Normal(name)
	return api.Entry{Name: normal, Attrs: m}, api.Success
}

func modelMake(name string, attrs []api.Attr) (api.Entry, int) {
	if normal, err := dn.Normal(name); err != api.OK || normal == "" {
		return api.Entry{}, api.InvalidDNSyntax
	}
	var m model
	for _, a := range attrs {
		typ, _ := rule.Type(a.Type)
		if typ == "" {
			return api.Entry{}, api.UndefinedAttributeType
		}
		if len(a.Values) == 0 {
			return api.Entry{}, api.ConstraintViolation
		}
		for _, value := range a.Values {
			if _, err := dn.Value(typ, value); err != api.OK {
				return api.Entry{}, api.InvalidAttributeSyntax
			}
			if m.place(typ, value) >= 0 {
				return api.Entry{}, api.AttributeOrValueExists
			}
			m = m.with(typ, value)
		}
	}
	return m.end(name, api.NamingViolation)
}

func modelModify(e api.Entry, list []api.Change) (api.Entry, int) {
	if made, code := modelMake(e.Name, e.Attrs); code != api.Success || !entry.Same(made, e) {
		return api.Entry{}, api.OperationsError
	}
	m := modelOf(e)
	for _, c := range list {
		code := api.Success
		if m, code = m.change(c); code != api.Success {
			return api.Entry{}, code
		}
	}
	return m.end(e.Name, api.NotAllowedOnRDN)
}

func (m model) change(c api.Change) (model, int) {
	typ, syntax := rule.Type(c.Attr.Type)
	switch {
	case typ == "":
		return nil, api.UndefinedAttributeType
	case c.Op < 0 || c.Op > 3:
		return nil, api.ProtocolError
	}
	for _, value := range c.Attr.Values {
		if _, err := dn.Value(typ, value); err != api.OK {
			return nil, api.InvalidAttributeSyntax
		}
	}
	at := m.find(typ)
	switch {
	case c.Op == opAdd && len(c.Attr.Values) == 0:
		return nil, api.ConstraintViolation
	case c.Op == opDelete && at < 0:
		return nil, api.NoSuchAttribute
	case c.Op == opIncrement && (syntax != 3 && syntax != 4 || len(c.Attr.Values) != 1):
		return nil, api.ConstraintViolation
	case c.Op == opIncrement && at < 0:
		return nil, api.NoSuchAttribute
	case c.Op == opIncrement:
		return m.increment(at, syntax, c.Attr.Values[0])
	case c.Op == opReplace && at >= 0, c.Op == opDelete && len(c.Attr.Values) == 0:
		m = slices.Delete(m, at, at+1)
	}
	for _, value := range c.Attr.Values {
		place := m.place(typ, value)
		switch {
		case c.Op == opDelete && place < 0:
			return nil, api.NoSuchAttribute
		case c.Op == opDelete:
			m = m.without(typ, place)
		case place >= 0:
			return nil, api.AttributeOrValueExists
		default:
			m = m.with(typ, value)
		}
	}
	return m, api.Success
}

// increment reckons with numbers of any size.
func (m model) increment(at, syntax int, by string) (model, int) {
	for i, value := range m[at].Values {
		if syntax == 3 {
			a, _ := new(big.Int).SetString(value, 10)
			b, _ := new(big.Int).SetString(by, 10)
			m[at].Values[i] = a.Add(a, b).String()
		} else {
			z, _ := phasor.Parse(value)
			w, _ := phasor.Parse(by)
			m[at].Values[i], _ = phasor.Print(complex(real(z)+real(w), imag(z)+imag(w)))
		}
		if _, err := dn.Value(m[at].Type, m[at].Values[i]); err != api.OK {
			return nil, api.ConstraintViolation
		}
	}
	return m, api.Success
}

func modelRename(e api.Entry, to string, deleteOld bool) (api.Entry, int) {
	if made, code := modelMake(e.Name, e.Attrs); code != api.Success || !entry.Same(made, e) {
		return api.Entry{}, api.OperationsError
	}
	normal, err := dn.Normal(to)
	if err != api.OK || normal == "" {
		return api.Entry{}, api.InvalidDNSyntax
	}
	m := modelOf(e)
	for _, pair := range pairs(to) {
		if m.place(pair[0], pair[1]) < 0 {
			m = m.with(pair[0], pair[1])
		}
	}
	for _, pair := range pairs(e.Name) {
		if deleteOld && !slices.Contains(pairs(normal), pair) {
			m = m.without(pair[0], m.place(pair[0], pair[1]))
		}
	}
	return m.end(to, api.NamingViolation)
}

// someTypes have more of what makes changes meet, and some that are none.
var someTypes = []string{"cn", "CN", "cn", "ou", "Ou", "serialNumber", "SERIALNUMBER", "position", "objectClass", "objectclass", "member", "userPassword", "cn", "ou", "serialNumber", "position", "objectClass"}

// someValues tells a value that mostly is one of that type.
func someValue(r *rand.Rand, typ string) string {
	_, syntax := rule.Type(typ)
	list := [][]string{
		{"a"},
		{"a", "A", "b", " B ", "c", "c  d", "C D", "top", "alias"},
		{"a", "A", "b", " ", "\x00"},
		{"0", "1", "-1", "2", "5", "7", "-7", "999999999999999999", "-999999999999999999"},
		{"0", "1", "i", "-i", "1+i", "3-i", "1000000", "-1000000i"},
		{"cn=a", "CN=A", `cn=\61`, "cn=a,dc=x", "ou=b"},
	}[syntax]
	if r.Intn(150) == 0 {
		list = []string{"", " ", "07", "1i", "x", "cn=a,"}
	}
	return list[r.Intn(len(list))]
}

func someAttr(r *rand.Rand, most int) api.Attr {
	typ := someTypes[r.Intn(len(someTypes))]
	if r.Intn(150) == 0 {
		typ = []string{"", "sn", "cn "}[r.Intn(3)]
	}
	a := attr(typ)
	for range r.Intn(most + 1) {
		a.Values = append(a.Values, someValue(r, typ))
	}
	return a
}

// someName tells a name that mostly is one.
func someName(r *rand.Rand) string {
	if r.Intn(60) == 0 {
		return []string{"", "cn=a,", "sn=a", "cn=a+cn=b", "cn= a"}[r.Intn(5)]
	}
	list := []string{"cn=a", "CN=A", `cn=\62`, "cn=c  D", "ou=b", "OU=a+CN=A", "cn=a+ou=b", "cn=b+ou=a", "serialNumber=7", "serialNumber=-1+cn=a", "objectClass=TOP", "objectClass=alias+cn=A", "uid=z"}
	return list[r.Intn(len(list))] + []string{"", ",dc=x", ",DC=X", ",cn=b,o=y"}[r.Intn(4)]
}

// someEntry tells an entry that mostly is formed: it is made of a name, with
// what that asks for.
func someEntry(r *rand.Rand) api.Entry {
	name := someName(r)
	attrs := []api.Attr{attr("objectClass", "top", "person")}
	if n, err := dn.Parse(name); err == api.OK && len(n.Parts) > 0 {
		for _, pair := range n.Parts[0] {
			attrs = append(attrs, attr(pair.Type, pair.Value))
		}
	}
	for range r.Intn(5) {
		typ := someTypes[r.Intn(len(someTypes))]
		more := append(slices.Clone(attrs), attr(typ, someValue(r, typ)))
		if _, code := modelMake(name, more); code == api.Success {
			attrs = more
		}
	}
	if e, code := modelMake(name, attrs); code == api.Success && r.Intn(40) > 0 {
		return e
	}
	return of(name, attrs...)
}

// holdCounts holds that each of these codes was met often enough.
func holdCounts(t *testing.T, met map[int]int, least int, codes ...int) {
	t.Helper()
	for _, code := range codes {
		if met[code] < least {
			t.Errorf("just %d answers of code %d", met[code], code)
		}
		delete(met, code)
	}
	if len(met) > 0 {
		t.Errorf("other codes: %v", met)
	}
}

// P9.2: random attributes, against the model. What is made of a formed entry's
// own attributes is that entry, and of no other one (P9.1).
func TestManyMake(t *testing.T) {
	r := rand.New(rand.NewSource(92))
	met := map[int]int{}
	for range 60000 {
		name := someName(r)
		var attrs []api.Attr
		for range r.Intn(6) {
			attrs = append(attrs, someAttr(r, 3))
		}
		if r.Intn(3) > 0 {
			attrs = append(attrs, attr("objectClass", "person"), attr("cn", "a"))
		}
		if r.Intn(100) == 0 {
			attrs = append(attrs, attr("description", numbered(api.MaxValues/2+r.Intn(api.MaxValues))...))
		}
		want, code := modelMake(name, attrs)
		holdMake(t, name, attrs, want, code)
		e := of(name, attrs...)
		if got := entry.Formed(e); got != (code == api.Success && entry.Same(want, e)) {
			t.Errorf("Formed(%s): %v", show(e), got)
		}
		met[code]++
	}
	holdCounts(t, met, 30, api.Success, api.InvalidDNSyntax, api.UndefinedAttributeType, api.ConstraintViolation, api.InvalidAttributeSyntax, api.AttributeOrValueExists, api.ObjectClassViolation, api.NamingViolation)
}

// P9.3: random changes, against the model.
func TestManyModify(t *testing.T) {
	r := rand.New(rand.NewSource(93))
	met := map[int]int{}
	for range 40000 {
		e := someEntry(r)
		var list []api.Change
		for range r.Intn(5) {
			op := r.Intn(4)
			if r.Intn(100) == 0 {
				op = []int{-1, 4, 100}[r.Intn(3)]
			}
			a := someAttr(r, 2)
			if op == opIncrement && r.Intn(4) > 0 {
				a.Type = []string{"serialNumber", "position", "Position"}[r.Intn(3)]
				a.Values = []string{someValue(r, a.Type)}
			}
			list = append(list, api.Change{Op: op, Attr: a})
		}
		if r.Intn(100) == 0 {
			list = append(list, change(opAdd, "description", numbered(api.MaxValues-1+r.Intn(4))...))
		}
		before := fmt.Sprintf("%q %v", e, list)
		want, code := modelModify(e, list)
		holdModify(t, e, list, want, code)
		// R3, R5: what is handed in is left as it is.
		if after := fmt.Sprintf("%q %v", e, list); after != before {
			t.Errorf("%s changed to %s", before, after)
		}
		met[code]++
	}
	holdCounts(t, met, 30, api.Success, api.OperationsError, api.UndefinedAttributeType, api.ProtocolError, api.InvalidAttributeSyntax, api.ConstraintViolation, api.AttributeOrValueExists, api.NoSuchAttribute, api.ObjectClassViolation, api.NotAllowedOnRDN)
}

// P9.4: random names, against the model.
func TestManyRename(t *testing.T) {
	r := rand.New(rand.NewSource(94))
	met := map[int]int{}
	for range 30000 {
		e, to := someEntry(r), someName(r)
		// Some have as many values of a type as may be.
		if r.Intn(20) == 0 {
			e, _ = modelMake(e.Name, append(slices.Clone(e.Attrs), attr("uid", numbered(api.MaxValues)...)))
		}
		if r.Intn(50) == 0 {
			e = of("objectClass=top,dc=x", attr("objectClass", "Top"))
		}
		before := fmt.Sprintf("%q", e)
		for _, deleteOld := range []bool{false, true} {
			want, code := modelRename(e, to, deleteOld)
			holdRename(t, e, to, deleteOld, want, code)
			met[code]++
		}
		if after := fmt.Sprintf("%q", e); after != before {
			t.Errorf("%s changed to %s", before, after)
		}
	}
	holdCounts(t, met, 30, api.Success, api.OperationsError, api.InvalidDNSyntax, api.ConstraintViolation, api.ObjectClassViolation)
}
