package tree_test

import (
	"fmt"
	"maps"
	"math/rand"
	"slices"
	"strings"
	"testing"

	"verger/api"
	"verger/dn"
	"verger/entry"
	"verger/rdn"
	"verger/tree"
)

// model is a tree as a plain map of its entries, by their names.
type model map[string]api.Entry

func (m model) all() []api.Entry {
	return slices.SortedFunc(maps.Values(m), func(a, b api.Entry) int { return dn.Compare(a.Name, b.Name) })
}

func (m model) hasChildren(name string) bool {
	for other := range m {
		if parent, _ := dn.Parent(other); parent == name {
			return true
		}
	}
	return false
}

func isAlias(e api.Entry) bool {
	_, ok := entry.Alias(e)
	return ok
}

// parentCode is what is asked of what an entry is put under.
func (m model) parentCode(parent string) int {
	e, ok := m[parent]
	switch {
	case parent == "":
		return api.Success
	case !ok:
		return api.NoSuchObject
	case isAlias(e):
		return api.NamingViolation
	}
	return api.Success
}

func (m model) add(name string, attrs []api.Attr) int {
	e, code := entry.Make(name, attrs)
	if code != api.Success {
		return code
	}
	if _, ok := m[e.Name]; ok {
		return api.EntryAlreadyExists
	}
	parent, _ := dn.Parent(name)
	if code := m.parentCode(parent); code != api.Success {
		return code
	}
	if len(m) == api.MaxEntries {
		return api.UnwillingToPerform
	}
	m[e.Name] = e
	return api.Success
}

func (m model) delete(name string) int {
	normal, err := dn.Normal(name)
	if err != api.OK || normal == "" {
		return api.InvalidDNSyntax
	}
	if _, ok := m[normal]; !ok {
		return api.NoSuchObject
	}
	if m.hasChildren(normal) {
		return api.NotAllowedOnNonLeaf
	}
	delete(m, normal)
	return api.Success
}

func (m model) modify(name string, list []api.Change) int {
	normal, err := dn.Normal(name)
	if err != api.OK || normal == "" {
		return api.InvalidDNSyntax
	}
	e, ok := m[normal]
	if !ok {
		return api.NoSuchObject
	}
	e, code := entry.Modify(e, list)
	if code != api.Success {
		return code
	}
	if isAlias(e) && m.hasChildren(normal) {
		return api.ObjectClassViolation
	}
	m[normal] = e
	return api.Success
}

func (m model) rename(name, part string, deleteOld bool, superior string, has bool) int {
	normal, err := dn.Normal(name)
	_, second := rdn.Parse(part)
	parent, _ := dn.Parent(name)
	third := api.OK
	if has {
		parent, third = dn.Normal(superior)
	}
	if err != api.OK || normal == "" || second != api.OK || third != api.OK {
		return api.InvalidDNSyntax
	}
	e, ok := m[normal]
	if !ok {
		return api.NoSuchObject
	}
	if code := m.parentCode(parent); code != api.Success {
		return code
	}
	if dn.Under(parent, normal) {
		return api.UnwillingToPerform
	}
	to, err := dn.Join(part, parent)
	if err != api.OK {
		return api.InvalidDNSyntax
	}
	if _, ok := m[to]; ok && to != normal {
		return api.EntryAlreadyExists
	}
	e, code := entry.Rename(e, to, deleteOld)
	if code != api.Success {
		return code
	}
	return m.move(normal, e)
}

// move puts an entry, and what is under it, in place of the one of a name.
func (m model) move(name string, e api.Entry) int {
	moved := model{}
	for other, own := range m {
		if !dn.Under(other, name) {
			continue
		}
		to, err := dn.Move(other, name, e.Name)
		if err != api.OK {
			return api.UnwillingToPerform
		}
		moved[to] = api.Entry{Name: to, Attrs: own.Attrs}
	}
	moved[e.Name] = e
	maps.DeleteFunc(m, func(other string, _ api.Entry) bool { return dn.Under(other, name) })
	maps.Copy(m, moved)
	return api.Success
}

// chooser chooses what random changes are made of.
type chooser struct {
	*rand.Rand
}

func (c chooser) of(list ...string) string {
	return list[c.Intn(len(list))]
}

// part tells a part's text, mostly.
func (c chooser) part() string {
	if c.Intn(60) == 0 {
		return c.of("", "cn", "cn= a", "sn=a", "cn=a,ou=b", "cn=a+cn=b", "position=i", "ou="+strings.Repeat(`\ff`, 200)+"+cn="+strings.Repeat(`\ff`, 200))
	}
	if c.Intn(8) == 0 {
		return c.of("ou="+strings.Repeat(`\fe`, 60), "OU="+strings.Repeat(`\FD`, 80))
	}
	return c.of("cn=a", "CN=A", `cn=\61`, "cn=a b", "cn=A  B", "cn=b", "ou=b", "dc=x", "dc=X", "cn=a+ou=b", "OU=B+cn=a", "uid=c", `cn=a\,b`, `CN=a\2Cb`, "serialNumber=7", "objectClass=TOP")
}

// name tells the name of an entry, or of what comes right under one, or of
// what is somewhere else.
func (c chooser) name(m model) string {
	all := slices.Sorted(maps.Keys(m))
	if len(all) == 0 || c.Intn(20) == 0 {
		return c.of("", "dc=", "dc=x,", "o=gone", "cn=gone,dc=x", c.part(), c.part()+",dc=x", c.part()+","+c.part())
	}
	name := c.of(all...)
	if c.Intn(4) == 0 {
		name = c.part() + "," + name
	}
	if c.Intn(3) == 0 {
		name = strings.ToUpper(name)
	}
	return name
}

// change makes a random change of both, and tells both codes, and what it was.
func (c chooser) change(got *tree.Tree, m model) (int, int, string) {
	name := c.name(m)
	switch c.Intn(11) {
	case 0, 1, 2, 3:
		name = c.part() + "," + name
		if c.Intn(6) == 0 {
			name = c.part()
		}
		attrs := attrsOf(name)
		// The part may say of what class it is already.
		if strings.HasPrefix(name, "objectClass") {
			attrs = attrs[1:]
		}
		if c.Intn(12) == 0 {
			attrs = append(attrs, attr("aliasedObjectName", "dc=x"), attr("objectClass", "alias"))
		} else if c.Intn(12) == 0 {
			attrs = attrsOf(c.part())[c.Intn(2):]
		} else if c.Intn(8) == 0 {
			attrs = append(attrs, attr("description", numbered(api.MaxValues)...))
		}
		return got.Add(name, attrs), m.add(name, attrs), fmt.Sprintf("Add(%q, %q)", name, attrs)
	case 4:
		return got.Delete(name), m.delete(name), fmt.Sprintf("Delete(%q)", name)
	case 5, 6:
		list := []api.Change{
			{Op: c.Intn(3), Attr: attr(c.of("description", "cn", "ou", "uid"), c.of("a", "b", "7"))},
			{Op: c.Intn(2) * 2, Attr: attr(c.of("objectClass", "aliasedObjectName", "objectClass", "serialNumber"), c.of("top", "alias", "dc=x", "7"))},
			{Op: 2, Attr: attr("aliasedObjectName", "cn=b")},
		}
		from := c.Intn(4)
		list = list[from:][:c.Intn(4-from)]
		return got.Modify(name, list), m.modify(name, list), fmt.Sprintf("Modify(%q, %v)", name, list)
	}
	part, superior, has, deleteOld := c.part(), c.name(m), c.Intn(3) > 0, c.Intn(2) == 0
	told := fmt.Sprintf("Rename(%q, %q, %v, %q, %v)", name, part, deleteOld, superior, has)
	return got.Rename(name, part, deleteOld, superior, has), m.rename(name, part, deleteOld, superior, has), told
}

// sameAs tells whether a tree has the entries of the model, in whatever order.
func (m model) sameAs(got *tree.Tree) bool {
	all := model{}
	for _, e := range got.All() {
		all[e.Name] = e
	}
	return got.Len() == len(m) && maps.EqualFunc(all, m, entry.Same)
}

// P10.1 to P10.4, R5: random changes, against the model; of what comes of them
// a tree can be made, and a copy has it.
func TestManyChanges(t *testing.T) {
	met := map[string]map[int]int{}
	for seed := range int64(200) {
		c := chooser{rand.New(rand.NewSource(seed))}
		got, m := tree.New(), model{}
		for step := range 100 {
			code, wanted, told := c.change(got, m)
			if code != wanted || !m.sameAs(got) {
				t.Fatalf("seed %d, step %d: %.500s: %d, not %d, or another tree", seed, step, told, code, wanted)
			}
			call, _, _ := strings.Cut(told, "(")
			if met[call] == nil {
				met[call] = map[int]int{}
			}
			met[call][code]++
			if step%25 == 0 {
				got = got.Copy()
				hold(t, got, m.all())
			}
		}
		hold(t, got, m.all())
		hold(t, treeOf(shuffled(got.All(), seed)...), m.all())
	}
	for call, codes := range map[string][]int{
		"Add":    {api.Success, api.InvalidDNSyntax, api.ObjectClassViolation, api.NamingViolation, api.EntryAlreadyExists, api.NoSuchObject},
		"Delete": {api.Success, api.InvalidDNSyntax, api.NoSuchObject, api.NotAllowedOnNonLeaf},
		"Modify": {api.Success, api.InvalidDNSyntax, api.NoSuchObject, api.InvalidAttributeSyntax, api.AttributeOrValueExists, api.NoSuchAttribute, api.ObjectClassViolation, api.NotAllowedOnRDN},
		"Rename": {api.Success, api.InvalidDNSyntax, api.NoSuchObject, api.NamingViolation, api.UnwillingToPerform, api.EntryAlreadyExists, api.ObjectClassViolation},
	} {
		for _, code := range codes {
			if met[call][code] < 15 {
				t.Errorf("%s: just %d answers of code %d", call, met[call][code], code)
			}
		}
	}
}
