package entry_test

import (
	"fmt"
	"slices"
	"strings"
	"testing"

	"verger/api"
	"verger/entry"
)

// What a change does: its Op.
const (
	opAdd       = 0
	opDelete    = 1
	opReplace   = 2
	opIncrement = 3
)

// change makes a change.
func change(op int, typ string, values ...string) api.Change {
	return api.Change{Op: op, Attr: attr(typ, values...)}
}

// holdEntry holds an answer to a code, and to the entry beside Success; there
// is none beside another code (R5).
func holdEntry(t *testing.T, call string, got api.Entry, code int, want api.Entry, wantCode int) {
	t.Helper()
	if !entry.Same(got, want) || code != wantCode {
		t.Errorf("%.300s: %s, %d; not %s, %d", call, show(got), code, show(want), wantCode)
	}
	if code == api.Success && !entry.Formed(got) || code != api.Success && !isZero(got) {
		t.Errorf("%.300s: %s, %d", call, show(got), code)
	}
}

func holdMake(t *testing.T, name string, attrs []api.Attr, want api.Entry, wantCode int) {
	t.Helper()
	got, code := entry.Make(name, attrs)
	holdEntry(t, fmt.Sprintf("Make(%q, %q)", name, attrs), got, code, want, wantCode)
}

func holdModify(t *testing.T, e api.Entry, list []api.Change, want api.Entry, wantCode int) {
	t.Helper()
	got, code := entry.Modify(e, list)
	holdEntry(t, fmt.Sprintf("Modify(%q, %v)", e, list), got, code, want, wantCode)
}

func holdRename(t *testing.T, e api.Entry, to string, deleteOld bool, want api.Entry, wantCode int) {
	t.Helper()
	got, code := entry.Rename(e, to, deleteOld)
	holdEntry(t, fmt.Sprintf("Rename(%q, %q, %v)", e, to, deleteOld), got, code, want, wantCode)
}

// P9.2, P9.3: the chapter's examples.
func TestExamples(t *testing.T) {
	attrs := []api.Attr{attr("objectClass", "person"), attr("cn", "A")}
	holdMake(t, "cn=a,dc=x", attrs, of("cn=a,dc=x", attr("cn", "A"), attr("objectClass", "person")), api.Success)
	holdModify(t, with(), []api.Change{change(opDelete, "cn")}, api.Entry{}, api.NotAllowedOnRDN)
	holdModify(t, with(attr("serialNumber", "5")), []api.Change{change(opIncrement, "serialNumber", "-7")}, with(attr("serialNumber", "-2")), api.Success)
}

// P9.2: what is made: the name's normal text, and attributes put together, with
// their values as they are written.
func TestMake(t *testing.T) {
	class := attr("objectClass", "person")
	holdMake(t, `CN=\41nn  Lee,DC=X`, []api.Attr{attr("OBJECTclass", " Person"), attr("CN", "ANN lee")}, of("cn=ann lee,dc=x", attr("cn", "ANN lee"), attr("objectClass", " Person")), api.Success)
	holdMake(t, "OU=B+cn=A", []api.Attr{attr("ou", "b"), class, attr("cn", "a")}, of("cn=a+ou=b", attr("cn", "a"), class, attr("ou", "b")), api.Success)
	holdMake(t, "cn=a", []api.Attr{attr("cn", "z", "B"), class, attr("ou", "d"), attr("CN", "a"), attr("objectclass", "TOP"), attr("cN", "c  C", "b b"), attr("ou", "c")},
		of("cn=a", attr("cn", "z", "B", "a", "c  C", "b b"), attr("objectClass", "person", "TOP"), attr("ou", "d", "c")), api.Success)
	for _, e := range formed() {
		backwards := slices.Clone(e.Attrs)
		slices.Reverse(backwards)
		var single []api.Attr
		for _, a := range e.Attrs {
			for _, value := range a.Values {
				single = append(single, attr(strings.ToUpper(a.Type), value))
			}
		}
		for _, attrs := range [][]api.Attr{e.Attrs, backwards, single} {
			holdMake(t, e.Name, attrs, e, api.Success)
		}
	}
}

// P9.2: what isn't made, one thing after the other, in the order of the chapter:
// of each list of faults the first one's code is told (R6).
func TestMakeCodes(t *testing.T) {
	cn, class := attr("cn", "a"), attr("objectClass", "person")
	over := attr("uid", numbered(api.MaxValues+1)...)
	for _, name := range []string{"", "a", "cn=", "cn=a,", "sn=a", "cn=a, dc=x", longName(api.MaxText + 1), deepName(api.MaxRDNs + 1), "cn=" + strings.Repeat("\xff", 200) + ",cn=" + strings.Repeat("\xff", 200)} {
		holdMake(t, name, []api.Attr{cn, class}, api.Entry{}, api.InvalidDNSyntax)
		holdMake(t, name, []api.Attr{attr("sn"), over}, api.Entry{}, api.InvalidDNSyntax)
		holdMake(t, name, nil, api.Entry{}, api.InvalidDNSyntax)
	}
	for _, c := range []struct {
		code  int
		attrs []api.Attr
	}{
		{api.UndefinedAttributeType, []api.Attr{attr("sn", "a"), cn, class}},
		{api.UndefinedAttributeType, []api.Attr{cn, class, attr("", "a")}},
		{api.UndefinedAttributeType, []api.Attr{cn, class, attr("cn ", "a")}},
		{api.UndefinedAttributeType, []api.Attr{attr("sn"), attr("ou"), attr("ou", "")}},
		{api.UndefinedAttributeType, []api.Attr{over, attr("sn")}},
		{api.ConstraintViolation, []api.Attr{cn, class, attr("ou")}},
		{api.ConstraintViolation, []api.Attr{cn, class, attr("cn")}},
		{api.ConstraintViolation, []api.Attr{attr("cn", []string{}...), attr("sn"), attr("cn", "")}},
		{api.InvalidAttributeSyntax, []api.Attr{cn, class, attr("ou", "")}},
		{api.InvalidAttributeSyntax, []api.Attr{cn, class, attr("ou", "b", " ")}},
		{api.InvalidAttributeSyntax, []api.Attr{cn, class, attr("ou", longValue()+"a")}},
		{api.InvalidAttributeSyntax, []api.Attr{cn, class, attr("serialNumber", "07")}},
		{api.InvalidAttributeSyntax, []api.Attr{cn, class, attr("position", "1i")}},
		{api.InvalidAttributeSyntax, []api.Attr{cn, class, attr("ref", "")}},
		{api.InvalidAttributeSyntax, []api.Attr{cn, class, attr("member", "")}},
		{api.InvalidAttributeSyntax, []api.Attr{cn, class, attr("MEMBER", "b")}},
		{api.InvalidAttributeSyntax, []api.Attr{attr("cn", "a", "b", "", "b"), attr("sn")}},
		{api.AttributeOrValueExists, []api.Attr{attr("cn", "a", "b", "B", ""), attr("sn")}},
		{api.AttributeOrValueExists, []api.Attr{cn, class, attr("CN", "b", " A ")}},
		{api.AttributeOrValueExists, []api.Attr{cn, class, attr("ou", "b"), attr("uid", "b"), attr("OU", "c", "B")}},
		{api.AttributeOrValueExists, []api.Attr{cn, class, attr("ref", "b", "B", "b")}},
		{api.AttributeOrValueExists, []api.Attr{cn, class, attr("member", "CN=a  b"), attr("member", `cn=\41 b`)}},
		{api.AttributeOrValueExists, []api.Attr{over, attr("uid", "0"), attr("sn", "a")}},
		{api.AttributeOrValueExists, []api.Attr{cn, attr("cn", "a"), attr("ou")}},
		{api.ConstraintViolation, []api.Attr{cn, attr("cn"), attr("cn", "a")}},
		{api.ConstraintViolation, []api.Attr{cn, class, over}},
		{api.ConstraintViolation, []api.Attr{over}},
		{api.ConstraintViolation, []api.Attr{cn, class, attr("uid", numbered(api.MaxValues)...), attr("ou", "b"), attr("UID", "x")}},
		{api.ObjectClassViolation, nil},
		{api.ObjectClassViolation, []api.Attr{}},
		{api.ObjectClassViolation, []api.Attr{cn}},
		{api.ObjectClassViolation, []api.Attr{attr("ou", "a")}},
		{api.NamingViolation, []api.Attr{class}},
		{api.NamingViolation, []api.Attr{class, attr("cn", "b")}},
		{api.NamingViolation, []api.Attr{class, attr("ou", "a"), attr("cn", "ab", "a a")}},
	} {
		holdMake(t, "CN=A,dc=x", c.attrs, api.Entry{}, c.code)
	}
	for _, c := range []struct {
		name string
		code int
	}{
		{"cn=a+ou=b", api.NamingViolation}, {"cn=a+uid=c", api.Success}, {"cn=a+uid=c+mail=d", api.NamingViolation}, {"uid=a,cn=a", api.NamingViolation}, {"uid=C", api.Success},
		{"serialNumber=7", api.Success}, {"serialNumber=-7", api.NamingViolation}, {"objectClass=Person", api.Success}, {"objectClass=top", api.NamingViolation},
	} {
		got, code := entry.Make(c.name, []api.Attr{cn, class, attr("serialNumber", "7"), attr("uid", "c")})
		if code != c.code || (code == api.Success) != entry.Formed(got) {
			t.Errorf("Make(%q): %s, %d", c.name, show(got), code)
		}
	}
}

// P9.2: just MaxValues values of each type, and one more of each.
func TestMakeMost(t *testing.T) {
	full := fullest()
	holdMake(t, full.Name, full.Attrs, full, api.Success)
	for _, a := range full.Attrs {
		more := attr(a.Type, "77")
		if strings.HasPrefix(a.Values[0], "CN=") {
			more = attr(a.Type, "cn=77")
		}
		holdMake(t, full.Name, append(slices.Clone(full.Attrs), more), api.Entry{}, api.ConstraintViolation)
	}
}

// P9.3: what changes make of an entry.
func TestModify(t *testing.T) {
	e := with(attr("ou", "B", "c", "D d"), attr("serialNumber", "5", "-999999999999999998"))
	serial := e.Attrs[3]
	ous := func(values ...string) api.Entry { return with(attr("ou", values...), serial) }
	for _, c := range []struct {
		want api.Entry
		list []api.Change
	}{
		{e, nil}, {e, []api.Change{}},
		{ous("B", "c", "D d", "a", "E  e"), []api.Change{change(opAdd, "OU", "a", "E  e")}},
		{with(e.Attrs[2], serial, attr("uid", "Z", "y")), []api.Change{change(opAdd, "UID", "Z", "y")}},
		{ous("B", "c", "D d", "z", "y"), []api.Change{change(opAdd, "ou", "z"), change(opAdd, "ou", "y")}},
		{with(serial), []api.Change{change(opDelete, "ou")}},
		{with(serial), []api.Change{change(opDelete, "OU", []string{}...)}},
		{with(serial), []api.Change{change(opDelete, "ou", "d  D", "b", "C")}},
		{with(serial), []api.Change{change(opDelete, "ou", "d d"), change(opDelete, "ou", "b"), change(opDelete, "ou", "c")}},
		{ous("B", "D d"), []api.Change{change(opDelete, "oU", " C ")}},
		{ous("D d"), []api.Change{change(opDelete, "ou", "c", "b")}},
		{ous("B", "D d", "C"), []api.Change{change(opDelete, "ou", "c"), change(opAdd, "ou", "C")}},
		{ous("z"), []api.Change{change(opDelete, "ou"), change(opAdd, "ou", "z")}},
		{ous("z", "D d", "b"), []api.Change{change(opReplace, "ou", "z", "D d", "b")}},
		{with(serial), []api.Change{change(opReplace, "ou")}},
		{e, []api.Change{change(opReplace, "uid")}},
		{with(e.Attrs[2], serial, attr("uid", "q")), []api.Change{change(opReplace, "uid", "q")}},
		{ous("c", "q"), []api.Change{change(opReplace, "ou", "b", "c"), change(opDelete, "ou", "b"), change(opAdd, "ou", "q")}},
		{with(e.Attrs[2], attr("serialNumber", "4", "-999999999999999999")), []api.Change{change(opIncrement, "SERIALnumber", "-1")}},
		{with(e.Attrs[2], attr("serialNumber", "6", "-999999999999999997")), []api.Change{change(opIncrement, "serialNumber", "3"), change(opIncrement, "serialNumber", "-2")}},
		// What would not do at the end may stand on the way.
		{e, []api.Change{change(opDelete, "objectClass"), change(opAdd, "objectClass", "person")}},
		{e, []api.Change{change(opDelete, "cn"), change(opAdd, "cn", "a")}},
		{with(e.Attrs[2], serial, attr("uid", numbered(api.MaxValues)...)), []api.Change{change(opAdd, "uid", numbered(api.MaxValues+5)...), change(opDelete, "uid", numbered(api.MaxValues + 5)[api.MaxValues:]...)}},
		{of("cn=a,dc=x", attr("cn", "b", " A"), attr("objectClass", "person"), e.Attrs[2], serial), []api.Change{change(opReplace, "cn", "b", " A")}},
		{of("cn=a,dc=x", attr("cn", "a"), attr("objectClass", "TOP"), e.Attrs[2], serial), []api.Change{change(opReplace, "objectclass", "TOP")}},
		{of("cn=a,dc=x", attr("cn", "a"), attr("member", "cn=B"), attr("objectClass", "person"), e.Attrs[2], serial), []api.Change{change(opAdd, "member", "cn=B")}},
	} {
		holdModify(t, e, c.list, c.want, api.Success)
	}
}

// P9.3: numbers that are added to, up to their bounds and beyond.
func TestIncrement(t *testing.T) {
	const most = "999999999999999999"
	for _, c := range []struct {
		typ, by  string
		from, to []string
	}{
		{"serialNumber", "-7", []string{"5"}, []string{"-2"}},
		{"serialNumber", "1", []string{"9", "-1", "-10", "0"}, []string{"10", "0", "-9", "1"}},
		{"serialNumber", "0", []string{"9", most}, []string{"9", most}},
		{"serialNumber", "-1", []string{"1", most}, []string{"0", "999999999999999998"}},
		{"serialNumber", most, []string{"0", "-" + most}, []string{most, "0"}},
		{"serialNumber", "-" + most, []string{"0", most}, []string{"-" + most, "0"}},
		{"serialNumber", "1", []string{"-" + most, most}, nil},
		{"serialNumber", "1", []string{most}, nil},
		{"serialNumber", "-1", []string{"5", "-" + most, "7"}, nil},
		{"serialNumber", most, []string{"1"}, nil},
		{"serialNumber", most, []string{most}, nil},
		{"serialNumber", "-" + most, []string{"-" + most}, nil},
		{"position", "i", []string{"1", "-i", "3-i"}, []string{"1+i", "0", "3"}},
		{"position", "-3-i", []string{"3+i", "3", "i", "1000000+1000000i"}, []string{"0", "-i", "-3", "999997+999999i"}},
		{"position", "1000000", []string{"-1000000i", "-1"}, []string{"1000000-1000000i", "999999"}},
		{"position", "1", []string{"0", "1000000"}, nil},
		{"position", "-i", []string{"1", "-1000000i"}, nil},
		{"position", "1000000+1000000i", []string{"1000000+1000000i"}, nil},
		{"position", "1+i", []string{"1000000"}, nil},
	} {
		e, code := entry.Make("cn=a,dc=x", with(attr(c.typ, c.from...)).Attrs)
		if code != api.Success {
			t.Fatalf("Make of %q: %d", c.from, code)
		}
		list := []api.Change{change(opIncrement, c.typ, c.by)}
		if c.to == nil {
			holdModify(t, e, list, api.Entry{}, api.ConstraintViolation)
			continue
		}
		want, _ := entry.Make("cn=a,dc=x", with(attr(c.typ, c.to...)).Attrs)
		holdModify(t, e, list, want, api.Success)
	}
}

// P9.3: what isn't changed, one thing after the other, in the order of the
// chapter; each list has more that is wrong behind it (R6).
func TestModifyCodes(t *testing.T) {
	e := with(attr("ou", "b", "c"), attr("position", "i"), attr("serialNumber", "5"))
	wrong := []api.Change{change(7, "sn"), change(7, "ou", ""), change(opAdd, "ou", ""), change(opAdd, "ou")}
	for _, c := range []struct {
		code int
		list []api.Change
	}{
		{api.UndefinedAttributeType, []api.Change{change(opAdd, "sn", "a")}},
		{api.UndefinedAttributeType, []api.Change{change(-1, "", "a")}},
		{api.UndefinedAttributeType, []api.Change{change(opDelete, "ou"), change(opReplace, "cn ", "a")}},
		{api.ProtocolError, []api.Change{change(4, "ou", "d")}},
		{api.ProtocolError, []api.Change{change(-1, "ou", "d")}},
		{api.ProtocolError, []api.Change{change(1<<40, "ou", "")}},
		{api.InvalidAttributeSyntax, []api.Change{change(opAdd, "ou", "b", "")}},
		{api.InvalidAttributeSyntax, []api.Change{change(opDelete, "ou", "z", " ")}},
		{api.InvalidAttributeSyntax, []api.Change{change(opDelete, "uid", "")}},
		{api.InvalidAttributeSyntax, []api.Change{change(opReplace, "ou", "z", "z", longValue()+"a")}},
		{api.InvalidAttributeSyntax, []api.Change{change(opIncrement, "serialNumber", "07")}},
		{api.InvalidAttributeSyntax, []api.Change{change(opIncrement, "ou", "")}},
		{api.InvalidAttributeSyntax, []api.Change{change(opIncrement, "position", "i", "1i")}},
		{api.ConstraintViolation, []api.Change{change(opAdd, "ou")}},
		{api.ConstraintViolation, []api.Change{change(opAdd, "uid", []string{}...)}},
		{api.AttributeOrValueExists, []api.Change{change(opAdd, "ou", "B")}},
		{api.AttributeOrValueExists, []api.Change{change(opAdd, "ou", "z", " c ")}},
		{api.AttributeOrValueExists, []api.Change{change(opAdd, "ou", "z", "Z")}},
		{api.AttributeOrValueExists, []api.Change{change(opAdd, "uid", "z", "y", "Z")}},
		{api.AttributeOrValueExists, []api.Change{change(opAdd, "uid", "z"), change(opAdd, "UID", "Z")}},
		{api.AttributeOrValueExists, []api.Change{change(opIncrement, "serialNumber", "1"), change(opAdd, "serialNumber", "6")}},
		{api.NoSuchAttribute, []api.Change{change(opDelete, "uid")}},
		{api.NoSuchAttribute, []api.Change{change(opDelete, "uid", "b")}},
		{api.NoSuchAttribute, []api.Change{change(opDelete, "ou", "z")}},
		{api.NoSuchAttribute, []api.Change{change(opDelete, "ou", "b", "bb")}},
		{api.NoSuchAttribute, []api.Change{change(opDelete, "ou", "b", "B")}},
		{api.NoSuchAttribute, []api.Change{change(opDelete, "ou"), change(opDelete, "ou")}},
		{api.NoSuchAttribute, []api.Change{change(opDelete, "ou", "b"), change(opDelete, "ou", "c"), change(opDelete, "ou")}},
		{api.NoSuchAttribute, []api.Change{change(opReplace, "ou"), change(opDelete, "ou")}},
		{api.NoSuchAttribute, []api.Change{change(opReplace, "ou", "z"), change(opDelete, "ou", "b")}},
		{api.NoSuchAttribute, []api.Change{change(opIncrement, "serialNumber", "1"), change(opDelete, "serialNumber", "5")}},
		{api.AttributeOrValueExists, []api.Change{change(opReplace, "ou", "z", "y", " Z")}},
		{api.AttributeOrValueExists, []api.Change{change(opReplace, "uid", "z", "z")}},
		{api.ConstraintViolation, []api.Change{change(opIncrement, "ou", "1")}},
		{api.ConstraintViolation, []api.Change{change(opIncrement, "uid", "1")}},
		{api.ConstraintViolation, []api.Change{change(opIncrement, "userPassword", "1")}},
		{api.ConstraintViolation, []api.Change{change(opIncrement, "member", "cn=1")}},
		{api.ConstraintViolation, []api.Change{change(opIncrement, "serialNumber")}},
		{api.ConstraintViolation, []api.Change{change(opIncrement, "serialNumber", "1", "2")}},
		{api.ConstraintViolation, []api.Change{change(opIncrement, "serialNumber", "1", "1")}},
		{api.ConstraintViolation, []api.Change{change(opDelete, "position"), change(opIncrement, "position")}},
		{api.NoSuchAttribute, []api.Change{change(opDelete, "position"), change(opIncrement, "position", "1")}},
		{api.NoSuchAttribute, []api.Change{change(opDelete, "serialNumber", "5"), change(opIncrement, "serialNumber", "1")}},
		{api.ConstraintViolation, []api.Change{change(opIncrement, "serialNumber", "999999999999999995")}},
		{api.ConstraintViolation, []api.Change{change(opIncrement, "position", "1000000i")}},
	} {
		holdModify(t, e, c.list, api.Entry{}, c.code)
		holdModify(t, e, slices.Concat([]api.Change{change(opDelete, "cn"), change(opDelete, "objectClass")}, c.list, wrong), api.Entry{}, c.code)
	}
}

// P9.3: what is asked of the entry at the end, in its order.
func TestModifyEnd(t *testing.T) {
	over := change(opAdd, "uid", numbered(api.MaxValues+1)...)
	just := change(opAdd, "uid", numbered(api.MaxValues)...)
	noClass, noName := change(opDelete, "objectClass"), change(opDelete, "cn", "A")
	for _, c := range []struct {
		code int
		list []api.Change
	}{
		{api.ConstraintViolation, []api.Change{over}}, {api.ConstraintViolation, []api.Change{noClass, noName, over}}, {api.ConstraintViolation, []api.Change{just, noName, change(opAdd, "uid", "x")}},
		{api.ConstraintViolation, []api.Change{change(opReplace, "cn", numbered(api.MaxValues+1)...)}}, {api.ConstraintViolation, []api.Change{change(opAdd, "cn", numbered(api.MaxValues)...)}},
		{api.ObjectClassViolation, []api.Change{noClass}}, {api.ObjectClassViolation, []api.Change{noName, noClass, just}}, {api.ObjectClassViolation, []api.Change{change(opReplace, "objectClass"), noName}}, {api.ObjectClassViolation, []api.Change{change(opDelete, "objectClass", "PERSON")}},
		{api.NotAllowedOnRDN, []api.Change{noName}}, {api.NotAllowedOnRDN, []api.Change{change(opReplace, "cn")}}, {api.NotAllowedOnRDN, []api.Change{change(opReplace, "cn", "b"), just}}, {api.NotAllowedOnRDN, []api.Change{change(opAdd, "cn", "b"), noName}},
	} {
		holdModify(t, with(), c.list, api.Entry{}, c.code)
	}
	e := of("cn=a+serialNumber=5,dc=x", attr("cn", "a"), attr("objectClass", "person"), attr("serialNumber", "4", "5"))
	holdModify(t, e, []api.Change{change(opIncrement, "serialNumber", "1")}, of(e.Name, e.Attrs[0], e.Attrs[1], attr("serialNumber", "5", "6")), api.Success)
	holdModify(t, e, []api.Change{change(opIncrement, "serialNumber", "2")}, api.Entry{}, api.NotAllowedOnRDN)
	holdModify(t, e, []api.Change{change(opDelete, "serialNumber", "4")}, of(e.Name, e.Attrs[0], e.Attrs[1], attr("serialNumber", "5")), api.Success)
	holdModify(t, e, []api.Change{change(opDelete, "serialNumber", "5")}, api.Entry{}, api.NotAllowedOnRDN)
	holdModify(t, fullest(), []api.Change{change(opAdd, "ou", "x"), change(opDelete, "ou", "3")}, func() api.Entry {
		e := fullest()
		e.Attrs[8].Values = append(slices.Delete(e.Attrs[8].Values, 3, 4), "x")
		return e
	}(), api.Success)
}

// P9.3, P9.4: what isn't formed is neither changed nor renamed, whatever else
// is wrong; what is formed, is, and stays as it was where nothing is asked.
func TestOfUnformed(t *testing.T) {
	for _, e := range unformed() {
		holdModify(t, e, nil, api.Entry{}, api.OperationsError)
		holdModify(t, e, []api.Change{change(7, "sn")}, api.Entry{}, api.OperationsError)
		holdRename(t, e, "cn=a,dc=x", false, api.Entry{}, api.OperationsError)
		holdRename(t, e, "", true, api.Entry{}, api.OperationsError)
	}
	for _, e := range formed() {
		holdModify(t, e, nil, e, api.Success)
		holdRename(t, e, e.Name, false, e, api.Success)
		holdRename(t, e, e.Name, true, e, api.Success)
	}
}

// P9.3: many changes of many values cost no more than they bring.
func TestModifyMany(t *testing.T) {
	values := numbered(100000)
	e := with(attr("uid", "x"))
	list := []api.Change{change(opAdd, "uid", values...)}
	for _, value := range values {
		list = append(list, change(opAdd, "ou", value))
	}
	holdModify(t, e, list, api.Entry{}, api.ConstraintViolation)
	list = append(list, change(opDelete, "uid", values...))
	for _, value := range values[3:] {
		list = append(list, change(opDelete, "ou", value))
	}
	holdModify(t, e, list, with(attr("ou", "0", "1", "2"), attr("uid", "x")), api.Success)
	holdMake(t, "cn=a", with(attr("uid", values...)).Attrs, api.Entry{}, api.ConstraintViolation)
	holdMake(t, "cn=a", with(attr("uid", values...), attr("uid", "77")).Attrs, api.Entry{}, api.AttributeOrValueExists)
}

// P9.4: entries under other names.
func TestRename(t *testing.T) {
	class := attr("objectClass", "person")
	e := of("cn=a+ou=b,dc=x", attr("cn", "z", "A", "c"), class, attr("ou", "B"))
	for _, c := range []struct {
		to   string
		keep api.Entry
		gone api.Entry
	}{
		{"cn=a+ou=b,dc=x", e, e},
		{`OU=B+CN=\41,DC=X`, e, e},
		{"cn=a+ou=b,o=y,dc=z", of("cn=a+ou=b,o=y,dc=z", e.Attrs...), of("cn=a+ou=b,o=y,dc=z", e.Attrs...)},
		{"cn=a,dc=x", of("cn=a,dc=x", e.Attrs...), of("cn=a,dc=x", e.Attrs[0], class)},
		{"ou=B", of("ou=b", e.Attrs...), of("ou=b", attr("cn", "z", "c"), class, attr("ou", "B"))},
		{"cn=C,dc=x", of("cn=c,dc=x", e.Attrs...), of("cn=c,dc=x", attr("cn", "z", "c"), class)},
		{"cn=D  d,dc=x", of("cn=d d,dc=x", attr("cn", "z", "A", "c", "D  d"), class, e.Attrs[2]), of("cn=d d,dc=x", attr("cn", "z", "c", "D  d"), class)},
		{`CN=\2b,dc=x`, of(`cn=\+,dc=x`, attr("cn", "z", "A", "c", "+"), class, e.Attrs[2]), of(`cn=\+,dc=x`, attr("cn", "z", "c", "+"), class)},
		{"uid=Q+OU=r+CN=a", of("cn=a+ou=r+uid=q", e.Attrs[0], class, attr("ou", "B", "r"), attr("uid", "Q")), of("cn=a+ou=r+uid=q", e.Attrs[0], class, attr("ou", "r"), attr("uid", "Q"))},
		// The value is there, though of another type.
		{"cn=b+ou=a", of("cn=b+ou=a", attr("cn", "z", "A", "c", "b"), class, attr("ou", "B", "a")), of("cn=b+ou=a", attr("cn", "z", "c", "b"), class, attr("ou", "a"))},
		{"serialNumber=7,dc=x", of("serialNumber=7,dc=x", e.Attrs[0], class, e.Attrs[2], attr("serialNumber", "7")), of("serialNumber=7,dc=x", attr("cn", "z", "c"), class, attr("serialNumber", "7"))},
		{"objectClass=PERSON", of("objectClass=person", e.Attrs...), of("objectClass=person", attr("cn", "z", "c"), class)},
		// Just the first parts count.
		{"uid=q,cn=a+ou=b,cn=d", of("uid=q,cn=a+ou=b,cn=d", append(slices.Clone(e.Attrs), attr("uid", "q"))...), of("uid=q,cn=a+ou=b,cn=d", attr("cn", "z", "c"), class, attr("uid", "q"))},
		{longName(api.MaxText), of(longName(api.MaxText), e.Attrs...), of(longName(api.MaxText), e.Attrs[0], class)},
		{deepName(api.MaxRDNs), of(deepName(api.MaxRDNs), e.Attrs...), of(deepName(api.MaxRDNs), e.Attrs[0], class)},
	} {
		holdRename(t, e, c.to, false, c.keep, api.Success)
		holdRename(t, e, c.to, true, c.gone, api.Success)
	}
}

// P9.4: what isn't renamed.
func TestRenameCodes(t *testing.T) {
	for _, to := range []string{"", "a", "cn=", "cn=a,", "cn=a, dc=x", "sn=a", "position=i", longName(api.MaxText + 1), deepName(api.MaxRDNs + 1), "cn=" + strings.Repeat("\xff", 200) + ",cn=" + strings.Repeat("\xff", 200)} {
		holdRename(t, with(), to, false, api.Entry{}, api.InvalidDNSyntax)
		holdRename(t, with(), to, true, api.Entry{}, api.InvalidDNSyntax)
	}
	class := of("objectClass=top,dc=x", attr("objectClass", "Top"))
	two := of("objectClass=top,dc=x", attr("objectClass", "Top", "person"))
	holdRename(t, class, "cn=a,dc=x", true, api.Entry{}, api.ObjectClassViolation)
	holdRename(t, class, "cn=a,dc=x", false, of("cn=a,dc=x", attr("cn", "a"), class.Attrs[0]), api.Success)
	holdRename(t, class, "objectClass=Person,dc=x", true, of("objectClass=person,dc=x", attr("objectClass", "Person")), api.Success)
	holdRename(t, two, "cn=a,dc=x", true, of("cn=a,dc=x", attr("cn", "a"), attr("objectClass", "person")), api.Success)
	// One more value than may be, unless one goes.
	full := fullest()
	gone := fullest()
	gone.Name = "cn=x,dc=x"
	gone.Attrs[1].Values = append(gone.Attrs[1].Values[1:], "x")
	holdRename(t, full, "cn=x,dc=x", false, api.Entry{}, api.ConstraintViolation)
	holdRename(t, full, "cn=x,dc=x", true, gone, api.Success)
	holdRename(t, full, "ou=x,dc=x", true, api.Entry{}, api.ConstraintViolation)
	other := of("cn=7+ou=8,o=y", full.Attrs...)
	holdRename(t, full, "ou=8+CN=7,o=y", false, other, api.Success)
	onlyClass := of("objectClass=0", attr("objectClass", "0"), attr("uid", numbered(api.MaxValues)...))
	holdRename(t, onlyClass, "uid=x", true, api.Entry{}, api.ConstraintViolation)
}
