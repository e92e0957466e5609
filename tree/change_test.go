package tree_test

import (
	"fmt"
	"slices"
	"strings"
	"testing"

	"verger/api"
	"verger/dn"
	"verger/entry"
	"verger/tree"
)

// numbered are so many values, no two alike.
func numbered(count int) []string {
	var values []string
	for i := range count {
		values = append(values, fmt.Sprint(i))
	}
	return values
}

// holdChange holds a change of a tree to its code, and the tree to what it
// should have then.
func holdChange(t *testing.T, got *tree.Tree, told string, code, wanted int, want []api.Entry) {
	t.Helper()
	if code != wanted {
		t.Errorf("%.300s: %d, not %d", told, code, wanted)
	}
	hold(t, got, want)
}

// P10.2: entries put in, in any order that has each parent ahead.
func TestAdd(t *testing.T) {
	got := tree.New()
	names := []string{"o=y", "DC=X", "ou=bb,dc=x", `OU=B\2cB,dc=x`, "CN=A,DC=X", "ou=b,DC=\\58", "dc=X Y", "cn=A,ou=b,dc=x", "cn=q,cn=A,OU=b,dc=x"}
	var want []api.Entry
	for _, name := range names {
		code := got.Add(name, attrsOf(name, attr("mail", "A", "b")))
		want = append(want, of(name, attr("mail", "A", "b")))
		slices.SortFunc(want, func(a, b api.Entry) int { return dn.Compare(a.Name, b.Name) })
		holdChange(t, got, "Add "+name, code, api.Success, want)
	}
	code := got.Add("cn=al,o=y", attrsOf("cn=al", aliasTo("cn=gone")...))
	holdChange(t, got, "Add an alias", code, api.Success, append(want, of("cn=al,o=y", aliasTo("cn=gone")...)))
	for _, name := range []string{deep(api.MaxRDNs), long(api.MaxText)} {
		got, want := tree.New(), []api.Entry{}
		for _, above := range chain(name) {
			code := got.Add(above, attrsOf(above))
			want = append(want, of(above))
			holdChange(t, got, "Add "+above, code, api.Success, want)
		}
		code := got.Add("cn=a,"+name, attrsOf("cn=a"))
		holdChange(t, got, "Add a longer one", code, api.InvalidDNSyntax, want)
	}
}

// P10.2: what isn't put in; layer 9's codes come ahead of the tree's.
func TestAddCodes(t *testing.T) {
	got := treeOf(orchard()...)
	for _, c := range []struct {
		name  string
		attrs []api.Attr
		code  int
	}{
		{"", attrsOf("cn=a"), api.InvalidDNSyntax}, {"dc=", attrsOf("cn=a"), api.InvalidDNSyntax}, {"dc=x,", nil, api.InvalidDNSyntax}, {"cn=a,sn=b", attrsOf("cn=a"), api.InvalidDNSyntax},
		{"dc=x", []api.Attr{attr("sn", "a")}, api.UndefinedAttributeType}, {"cn=a,o=z", []api.Attr{attr("sn", "a")}, api.UndefinedAttributeType},
		{"dc=x", attrsOf("dc=x", attr("cn")), api.ConstraintViolation}, {"cn=a,o=z", attrsOf("cn=a", attr("uid", numbered(api.MaxValues+1)...)), api.ConstraintViolation},
		{"dc=x", attrsOf("dc=x", attr("cn", "")), api.InvalidAttributeSyntax}, {"dc=x", attrsOf("dc=x", attr("cn", "a", "A")), api.AttributeOrValueExists},
		{"dc=x", []api.Attr{attr("dc", "x")}, api.ObjectClassViolation}, {"cn=a,o=z", []api.Attr{attr("cn", "a")}, api.ObjectClassViolation}, {"dc=x", nil, api.ObjectClassViolation},
		{"dc=x", attrsOf("cn=a"), api.NamingViolation}, {"cn=a,o=z", attrsOf("cn=b"), api.NamingViolation},
		{"dc=x", attrsOf("dc=x"), api.EntryAlreadyExists}, {"CN=A,OU=b,DC=x", attrsOf("cn=a", attr("mail", "other")), api.EntryAlreadyExists}, {`OU=B\2Cb,dc=X`, attrsOf(`ou=b\,b`), api.EntryAlreadyExists}, {"cn=al,ou=b,dc=x", attrsOf("cn=al"), api.EntryAlreadyExists},
		{"cn=a,o=z", attrsOf("cn=a"), api.NoSuchObject}, {"cn=a,cn=gone,dc=x", attrsOf("cn=a"), api.NoSuchObject}, {"cn=a,ou=b", attrsOf("cn=a"), api.NoSuchObject}, {"cn=a,cn=b,cn=al,ou=b,dc=x", attrsOf("cn=a"), api.NoSuchObject}, {"dc=x,dc=y", attrsOf("dc=x"), api.NoSuchObject},
		{"cn=a,cn=al,ou=b,dc=x", attrsOf("cn=a"), api.NamingViolation}, {"cn=a,CN=AL,ou=b,DC=x", attrsOf("cn=a", aliasTo("dc=x")...), api.NamingViolation},
	} {
		code := got.Add(c.name, c.attrs)
		holdChange(t, got, fmt.Sprintf("Add(%q, %q)", c.name, c.attrs), code, c.code, orchard())
	}
}

// P10.2: no more entries than may be; the other codes come ahead of that.
func TestAddToFull(t *testing.T) {
	want := full()
	want = append(want[:len(want)-1], of("cn=al,dc=x", aliasTo("dc=x")...))
	got := treeOf(want...)
	for name, wanted := range map[string]int{
		"cn=b,dc=x": api.UnwillingToPerform, "o=y": api.UnwillingToPerform, "cn=b,cn=005,dc=x": api.UnwillingToPerform,
		"": api.InvalidDNSyntax, "dc=x": api.EntryAlreadyExists, "cn=a,o=y": api.NoSuchObject, "cn=a,cn=al,dc=x": api.NamingViolation,
	} {
		holdChange(t, got, "Add "+name, got.Add(name, attrsOf(name)), wanted, want)
	}
	holdChange(t, got, "Add nothing", got.Add("o=y", nil), api.ObjectClassViolation, want)
	if code := got.Delete("cn=000,dc=x"); code != api.Success {
		t.Errorf("Delete: %d", code)
	}
	want = append(slices.Delete(want, 1, 2), of("o=y"))
	holdChange(t, got, "Add o=y", got.Add("o=y", attrsOf("o=y")), api.Success, want)
	holdChange(t, got, "Add o=z", got.Add("o=z", attrsOf("o=z")), api.UnwillingToPerform, want)
	one := tree.New()
	for i, e := range full() {
		if code := one.Add(e.Name, e.Attrs); code != api.Success {
			t.Errorf("Add %d: %d", i, code)
		}
	}
	holdChange(t, one, "Add o=y", one.Add("o=y", attrsOf("o=y")), api.UnwillingToPerform, full())
}

// P10.3: entries taken out, from the lowest on.
func TestDelete(t *testing.T) {
	got, want := treeOf(orchard()...), orchard()
	for _, name := range []string{"CN=AL,ou=B,dc=x", "dc=X", "ou=b,dc=x", "cn=a,OU=b,dc=x", "ou=b,dc=x", `OU=B\2cb,dc=x`, `uid=9+cn=Z,ou=b\,B,dc=x`, "dc=x y", "cn=a,dc=x  Y", "dc=x y", "dc=x", "o=y", "ou=bb,dc=x", `ou=b\,b,dc=x`, "cn=a,dc=x", "dc=x", "ou=b b,dc=x", "dc=x"} {
		normal, _ := dn.Normal(name)
		wanted := api.Success
		for _, e := range want {
			if parent, _ := dn.Parent(e.Name); parent == normal {
				wanted = api.NotAllowedOnNonLeaf
			}
		}
		if wanted == api.Success {
			want = slices.DeleteFunc(want, func(e api.Entry) bool { return e.Name == normal })
		}
		holdChange(t, got, "Delete "+name, got.Delete(name), wanted, want)
		if wanted == api.Success {
			holdChange(t, got, "Delete again "+name, got.Delete(name), api.NoSuchObject, want)
		}
	}
	hold(t, got, nil)
	holdChange(t, got, "Add", got.Add("dc=x", attrsOf("dc=x")), api.Success, entriesOf("dc=x"))
}

// P10.3: names that aren't deleted, modified or renamed.
func TestNamesOfNothing(t *testing.T) {
	got := treeOf(orchard()...)
	for name, wanted := range map[string]int{
		"": api.InvalidDNSyntax, "dc=": api.InvalidDNSyntax, "dc": api.InvalidDNSyntax, "dc=x,": api.InvalidDNSyntax, ",dc=x": api.InvalidDNSyntax, "dc= x": api.InvalidDNSyntax, "sn=x": api.InvalidDNSyntax, " ": api.InvalidDNSyntax,
		long(api.MaxText + 1): api.InvalidDNSyntax, deep(api.MaxRDNs + 1): api.InvalidDNSyntax, "cn=" + strings.Repeat("\xff", 200) + ",cn=" + strings.Repeat("\xff", 200): api.InvalidDNSyntax,
		"dc=y": api.NoSuchObject, "o=x": api.NoSuchObject, "cn=a": api.NoSuchObject, "cn=a,o=y": api.NoSuchObject, "cn=al,dc=x": api.NoSuchObject, long(api.MaxText): api.NoSuchObject, deep(api.MaxRDNs): api.NoSuchObject,
	} {
		wrong := []api.Change{{Op: 9, Attr: attr("sn")}}
		holdChange(t, got, "Delete "+name, got.Delete(name), wanted, orchard())
		holdChange(t, got, "Modify "+name, got.Modify(name, nil), wanted, orchard())
		holdChange(t, got, "Modify "+name, got.Modify(name, wrong), wanted, orchard())
		holdChange(t, got, "Rename "+name, got.Rename(name, "cn=q", true, "", false), wanted, orchard())
		holdChange(t, got, "Rename "+name, got.Rename(name, "cn=q", false, "o=y", true), wanted, orchard())
		// A part, or a superior, that is none comes ahead of a name that isn't there.
		holdChange(t, got, "Rename "+name, got.Rename(name, "cn=", true, "", false), api.InvalidDNSyntax, orchard())
		holdChange(t, got, "Rename "+name, got.Rename(name, "cn=q", true, "dc=", true), api.InvalidDNSyntax, orchard())
	}
}

// P10.3: entries changed where they are.
func TestModify(t *testing.T) {
	for at, e := range orchard() {
		got, want := treeOf(orchard()...), orchard()
		for i, list := range [][]api.Change{
			nil,
			{{Op: 0, Attr: attr("UID", "A", "b")}},
			{{Op: 1, Attr: attr("uid", "a")}, {Op: 2, Attr: attr("description", "other")}},
			{{Op: 0, Attr: attr("serialNumber", "7")}, {Op: 3, Attr: attr("serialNumber", "-9")}},
		} {
			// One of them has a uid already, and that is its name's.
			if slices.Contains(entry.Values(e, "uid"), "9") && i == 2 {
				list = list[1:]
			}
			changed, code := entry.Modify(want[at], list)
			want[at] = changed
			holdChange(t, got, "Modify "+e.Name, got.Modify(strings.ToUpper(e.Name), list), code, want)
			if code != api.Success {
				t.Errorf("Modify(%q): %d", e.Name, code)
			}
		}
	}
}

// P10.3: entries that aren't changed: by layer 9's codes.
func TestModifyCodes(t *testing.T) {
	got := treeOf(orchard()...)
	for _, name := range []string{"dc=x", "cn=a,dc=x", "cn=al,ou=b,dc=x"} {
		first := attrsOf(name)[1].Type
		for wanted, last := range map[int]api.Change{
			api.UndefinedAttributeType: {Op: 0, Attr: attr("sn", "a")},
			api.ProtocolError:          {Op: 4, Attr: attr("cn", "a")},
			api.InvalidAttributeSyntax: {Op: 0, Attr: attr("ou", "")},
			api.ConstraintViolation:    {Op: 0, Attr: attr("ou", numbered(api.MaxValues+1)...)},
			api.AttributeOrValueExists: {Op: 0, Attr: attr("objectClass", "TOP")},
			api.NoSuchAttribute:        {Op: 1, Attr: attr("mail", "a")},
			api.ObjectClassViolation:   {Op: 2, Attr: attr("objectClass")},
			api.NotAllowedOnRDN:        {Op: 2, Attr: attr(first, "q")},
		} {
			list := []api.Change{{Op: 2, Attr: attr("uid", "z")}, last}
			holdChange(t, got, fmt.Sprintf("Modify(%q, %v)", name, list), got.Modify(name, list), wanted, orchard())
		}
	}
}

// P10.3: what has children doesn't become an alias; what has none does. Layer
// 9's codes come ahead of that.
func TestModifyToAlias(t *testing.T) {
	to := []api.Change{{Op: 0, Attr: attr("objectClass", "ALIAS")}, {Op: 2, Attr: attr("aliasedObjectName", "cn=gone")}}
	back := []api.Change{{Op: 1, Attr: attr("objectClass", "alias")}}
	for _, name := range []string{"dc=x", "ou=b,dc=x", `ou=b\,b,dc=x`, "dc=x y"} {
		got := treeOf(orchard()...)
		holdChange(t, got, "Modify "+name, got.Modify(name, to), api.ObjectClassViolation, orchard())
		with := append(slices.Clone(to), api.Change{Op: 0, Attr: attr("sn", "a")})
		holdChange(t, got, "Modify "+name, got.Modify(name, with), api.UndefinedAttributeType, orchard())
		with[2] = api.Change{Op: 0, Attr: attr("uid", numbered(api.MaxValues+1)...)}
		holdChange(t, got, "Modify "+name, got.Modify(name, with), api.ConstraintViolation, orchard())
		// One without a target is none; nor is one that is it just on the way.
		if code := got.Modify(name, to[:1]); code != api.Success {
			t.Errorf("Modify(%q): %d", name, code)
		}
		all := got.All()
		holdChange(t, got, "Modify "+name, got.Modify(name, to[1:]), api.ObjectClassViolation, all)
		if code := got.Modify(name, []api.Change{to[1], back[0]}); code != api.Success {
			t.Errorf("Modify(%q): %d", name, code)
		}
	}
	for _, name := range []string{"o=y", "ou=bb,dc=x", "cn=a,ou=b,dc=x"} {
		got := treeOf(orchard()...)
		want := orchard()
		at := slices.Index(namesOf(want), name)
		want[at] = of(name, aliasTo("cn=gone")...)
		want[at].Attrs[slices.IndexFunc(want[at].Attrs, func(a api.Attr) bool { return a.Type == "objectClass" })].Values[1] = "ALIAS"
		holdChange(t, got, "Modify "+name, got.Modify(name, to), api.Success, want)
		holdChange(t, got, "Add under an alias", got.Add("cn=q,"+name, attrsOf("cn=q")), api.NamingViolation, want)
		if code := got.Modify(name, back); code != api.Success {
			t.Errorf("Modify(%q): %d", name, code)
		}
		if code := got.Add("cn=q,"+name, attrsOf("cn=q")); code != api.Success {
			t.Errorf("Add under %q: %d", name, code)
		}
		if code := got.Modify(name, to[:1]); code != api.ObjectClassViolation {
			t.Errorf("Modify(%q) with children: %d", name, code)
		}
	}
}

// P10.4: entries under other names, with all that is under them.
func TestRename(t *testing.T) {
	for _, c := range []struct {
		name, part string
		deleteOld  bool
		superior   string
		has        bool
		// from and to are of the texts that stand for the names under it.
		to string
	}{
		{"ou=b,dc=x", "ou=c", true, "", false, "ou=c,dc=x"},
		{"OU=B,DC=X", "OU=C", false, "", false, "ou=c,dc=x"},
		{"ou=b,dc=x", "cn=z+ou=B", true, "", false, "cn=z+ou=b,dc=x"},
		{"ou=b,dc=x", "ou=b", true, "o=y", true, "ou=b,o=y"},
		{"ou=b,dc=x", `OU=\62`, true, "", true, "ou=b"},
		{"ou=b,dc=x", "dc=w", true, "", true, "dc=w"},
		{"ou=b,dc=x", "ou=bbb", true, "DC=X", true, "ou=bbb,dc=x"},
		{"ou=b,dc=x", "ou=b", true, "dc=x", true, "ou=b,dc=x"},
		{"ou=b,dc=x", "OU=B", false, "", false, "ou=b,dc=x"},
		{"ou=b,dc=x", "ou=A  Z", true, "cn=a,DC=x Y", true, "ou=a z,cn=a,dc=x y"},
		{"ou=b,dc=x", "ou=b", false, `CN=Z+UID=9,ou=B\,B,dc=x`, true, `ou=b,cn=z+uid=9,ou=b\,b,dc=x`},
		{"dc=x", "dc=z", true, "", false, "dc=z"},
		{"dc=x", "dc=X", true, "", false, "dc=x"},
		{"dc=x", "dc=a", true, "", true, "dc=a"},
		{"dc=x", "dc=x", false, "o=y", true, "dc=x,o=y"},
		{"dc=x", "ou=q", true, "cn=a,dc=x y", true, "ou=q,cn=a,dc=x y"},
		{"dc=x y", "dc=a", true, "ou=b b,dc=x", true, "dc=a,ou=b b,dc=x"},
		{"cn=al,ou=b,dc=x", "cn=a", false, "o=y", true, "cn=a,o=y"},
		{"cn=al,ou=b,dc=x", "cn=al", true, "", true, "cn=al"},
		{"o=y", `o=y\+z`, true, "", false, `o=y\+z`},
		{"o=y", "serialNumber=7+o=Y", true, "dc=x", true, "o=y+serialNumber=7,dc=x"},
		// What isn't asked for may be anything.
		{"o=y", "o=z", true, "dc=", false, "o=z"},
		{"cn=a,dc=x", "cn=b", true, "dc=gone", false, "cn=b,dc=x"},
	} {
		got := treeOf(orchard()...)
		var want []api.Entry
		from, _ := dn.Normal(c.name)
		for _, e := range orchard() {
			if e.Name == from {
				renamed, code := entry.Rename(e, c.to, c.deleteOld)
				if code != api.Success {
					t.Fatalf("entry.Rename(%q): %d", c.to, code)
				}
				e = renamed
			} else if under, ok := strings.CutSuffix(e.Name, ","+from); ok {
				e.Name = under + "," + c.to
			}
			want = append(want, e)
		}
		slices.SortFunc(want, func(a, b api.Entry) int { return dn.Compare(a.Name, b.Name) })
		code := got.Rename(c.name, c.part, c.deleteOld, c.superior, c.has)
		holdChange(t, got, fmt.Sprint("Rename ", c), code, api.Success, want)
		// What is made so is a tree as any other.
		hold(t, treeOf(shuffled(want, 9)...), want)
		if from != c.to {
			holdChange(t, got, fmt.Sprint("Rename again ", c), got.Rename(c.name, c.part, c.deleteOld, c.superior, c.has), api.NoSuchObject, want)
		}
	}
}

// P10.4: the new name's values are those of its normal text, where there are no
// alike ones; the old name's go, if they are to.
func TestRenameValues(t *testing.T) {
	for _, c := range []struct {
		part      string
		deleteOld bool
		want      []api.Attr
	}{
		{"cn=Ann  LEE", false, []api.Attr{attr("cn", "A", "bo", "ann lee"), attr("objectClass", "top")}},
		{"cn=Ann  LEE", true, []api.Attr{attr("cn", "bo", "ann lee"), attr("objectClass", "top")}},
		{"cn=BO", true, []api.Attr{attr("cn", "bo"), attr("objectClass", "top")}},
		{"CN=a", true, []api.Attr{attr("cn", "A", "bo"), attr("objectClass", "top")}},
		{"ou=Q+cn=A", true, []api.Attr{attr("cn", "A", "bo"), attr("objectClass", "top"), attr("ou", "q")}},
		{"ou=Q", true, []api.Attr{attr("cn", "bo"), attr("objectClass", "top"), attr("ou", "q")}},
	} {
		got := tree.New()
		got.Add("cn=a", []api.Attr{attr("objectClass", "top"), attr("cn", "A", "bo")})
		name, _ := dn.Normal(c.part)
		holdChange(t, got, "Rename to "+c.part, got.Rename("CN=A", c.part, c.deleteOld, "", false), api.Success, []api.Entry{{Name: name, Attrs: c.want}})
	}
}

// pole are the entries of a name of as many parts as may be and of those above
// it, and of others that stand about; all that are named full have no room for
// one more uid.
func pole() []api.Entry {
	return slices.Concat(entriesOf(chain(deep(api.MaxRDNs))...), []api.Entry{
		of("dc=y"),
		of("cn=al,dc=y", aliasTo("dc=x")...),
		of("cn=full,dc=y", attr("uid", numbered(api.MaxValues)...)),
		of("cn=a,cn=full,dc=y"),
		of("uid=q,dc=y"),
		of("dc=z"),
		of("cn=al,dc=z", aliasTo("dc=x")...),
	})
}

// P10.4: what isn't renamed, and of several codes the one that is named first.
func TestRenameCodes(t *testing.T) {
	last, wide := deep(api.MaxRDNs), "ou="+strings.Repeat(`\ff`, 200)+"+cn="+strings.Repeat(`\ff`, 200)
	got := treeOf(pole()...)
	hold(t, got, pole())
	for _, c := range []struct {
		name, part, superior string
		code                 int
	}{
		// What is no part's text, or no name's.
		{"dc=y", "", "dc=z", api.InvalidDNSyntax}, {"dc=y", "dc", "dc=z", api.InvalidDNSyntax}, {"dc=y", "dc=", "dc=z", api.InvalidDNSyntax}, {"dc=y", "dc=a,dc=b", "dc=z", api.InvalidDNSyntax}, {"dc=y", "dc= a", "dc=gone", api.InvalidDNSyntax}, {"dc=y", "sn=a", "cn=al,dc=z", api.InvalidDNSyntax},
		{"dc=y", "position=i", "dc=z", api.InvalidDNSyntax}, {"dc=y", "dc=a+dc=b", "dc=y", api.InvalidDNSyntax}, {"dc=y", "dc=a", "dc=", api.InvalidDNSyntax}, {"dc=y", "dc=a", "dc=z,", api.InvalidDNSyntax}, {"dc=y", "dc=a", deep(api.MaxRDNs + 1), api.InvalidDNSyntax}, {"dc=gone", "dc=a", long(api.MaxText + 1), api.InvalidDNSyntax},
		// A name that isn't there.
		{"dc=gone", "dc=a", "cn=al,dc=z", api.NoSuchObject}, {"dc=gone", "dc=a", "dc=gone", api.NoSuchObject}, {"dc=gone", "cn=al", "dc=z", api.NoSuchObject}, {"dc=gone", "dc=a", last, api.NoSuchObject}, {"dc=gone", wide, "dc=z", api.NoSuchObject},
		// A parent that isn't there.
		{"dc=y", "dc=a", "dc=gone", api.NoSuchObject}, {"dc=y", "dc=a", "cn=gone,dc=z", api.NoSuchObject}, {"dc=y", "dc=a", "cn=gone,dc=y", api.NoSuchObject}, {"dc=y", wide, "cn=gone,dc=y", api.NoSuchObject}, {"dc=y", "dc=a", "cn=gone,cn=al,dc=y", api.NoSuchObject},
		{"cn=full,dc=y", "uid=z", "o=gone", api.NoSuchObject}, {"dc=x", "dc=a", "cn=gone," + deep(4), api.NoSuchObject},
		// A parent that is an alias.
		{"dc=z", "dc=a", "cn=al,dc=y", api.NamingViolation}, {"dc=y", "dc=a", "CN=AL,dc=y", api.NamingViolation}, {"cn=al,dc=y", "cn=a", "cn=al,dc=y", api.NamingViolation}, {"dc=z", wide, "cn=al,dc=y", api.NamingViolation}, {"cn=full,dc=y", "uid=z", "cn=al,dc=z", api.NamingViolation},
		// A parent under the name.
		{"dc=y", "dc=a", "dc=y", api.UnwillingToPerform}, {"dc=y", "cn=a", "cn=full,dc=y", api.UnwillingToPerform}, {"dc=y", "cn=full", "DC=Y", api.UnwillingToPerform}, {"dc=x", "dc=a", last, api.UnwillingToPerform}, {"dc=x", wide, deep(2), api.UnwillingToPerform}, {"cn=full,dc=y", "uid=z", "cn=a,cn=full,dc=y", api.UnwillingToPerform},
		// A name that is too long.
		{"dc=z", "dc=a", last, api.InvalidDNSyntax}, {"dc=z", wide, "dc=y", api.InvalidDNSyntax}, {"dc=x", wide, "", api.InvalidDNSyntax}, {"cn=full,dc=y", "uid=z", last, api.InvalidDNSyntax},
		// A name that another entry has.
		{"dc=z", "dc=y", "", api.EntryAlreadyExists}, {"dc=z", "DC=X", "", api.EntryAlreadyExists}, {"cn=al,dc=y", "cn=al", "dc=z", api.EntryAlreadyExists}, {"dc=y", "CN=\\41L", "dc=z", api.EntryAlreadyExists}, {"dc=x", "cn=al", "dc=z", api.EntryAlreadyExists}, {"cn=full,dc=y", "uid=Q", "dc=y", api.EntryAlreadyExists},
		{"dc=x", "dc=y", "", api.EntryAlreadyExists}, {"cn=full,dc=y", "ou=b", deep(11), api.EntryAlreadyExists}, {"dc=z", "ou=b", deep(11), api.EntryAlreadyExists},
		// Layer 9's.
		{"cn=full,dc=y", "uid=z", "dc=y", api.ConstraintViolation}, {"cn=full,dc=y", "uid=z+cn=full", "dc=z", api.ConstraintViolation}, {"cn=full,dc=y", "uid=z", "", api.ConstraintViolation}, {"cn=full,dc=y", "uid=z", deep(11), api.ConstraintViolation},
		// Names under it that are too long.
		{"dc=y", "dc=y", deep(10), api.UnwillingToPerform}, {"cn=full,dc=y", "cn=b", deep(11), api.UnwillingToPerform}, {"dc=x", "dc=x", "dc=z", api.UnwillingToPerform}, {"dc=x", "ou=" + strings.Repeat(`\ff`, 190) + "+cn=" + strings.Repeat(`\ff`, 130), "", api.UnwillingToPerform},
	} {
		for _, deleteOld := range []bool{false, true} {
			code := got.Rename(c.name, c.part, deleteOld, c.superior, true)
			holdChange(t, got, fmt.Sprint("Rename ", c, deleteOld), code, c.code, pole())
		}
	}
	// What has no class left.
	class := treeOf(api.Entry{Name: "objectClass=top", Attrs: []api.Attr{attr("objectClass", "Top"), attr("uid", "a")}}, of("dc=z"))
	all := class.All()
	holdChange(t, class, "Rename", class.Rename("objectClass=top", "dc=z", true, "", false), api.EntryAlreadyExists, all)
	holdChange(t, class, "Rename", class.Rename("objectClass=top", "uid=a", true, "dc=z", true), api.ObjectClassViolation, all)
	holdChange(t, class, "Rename", class.Rename("objectClass=top", "uid=a", false, "dc=z", true), api.Success, []api.Entry{all[0], {Name: "uid=a,dc=z", Attrs: all[1].Attrs}})
}

// P10.4: without a superior, the old parent is the new one, and the codes are
// the same.
func TestRenameInPlace(t *testing.T) {
	got := treeOf(pole()...)
	for _, c := range []struct {
		name, part string
		code       int
	}{
		{"dc=y", "dc=z", api.EntryAlreadyExists}, {"dc=y", "dc=", api.InvalidDNSyntax}, {"dc=gone", "dc=a", api.NoSuchObject}, {"cn=full,dc=y", "uid=q", api.EntryAlreadyExists}, {"cn=full,dc=y", "uid=z", api.ConstraintViolation},
		{"cn=al,dc=y", "cn=full", api.EntryAlreadyExists}, {deep(2), "ou=" + strings.Repeat(`\ff`, 200) + "+cn=" + strings.Repeat(`\ff`, 200), api.InvalidDNSyntax}, {deep(2), "ou=" + strings.Repeat(`\ff`, 190) + "+cn=" + strings.Repeat(`\ff`, 130), api.UnwillingToPerform},
	} {
		for _, superior := range []string{"", "dc=z", "cn=al,dc=y", "dc=", "dc=gone", c.name} {
			holdChange(t, got, fmt.Sprint("Rename ", c), got.Rename(c.name, c.part, true, superior, false), c.code, pole())
		}
	}
}

// P10.4: names as long, and of as many parts, as may be.
func TestRenameToLongest(t *testing.T) {
	got := treeOf(pole()...)
	if code := got.Rename("dc=y", "dc=y", true, deep(9), true); code != api.Success {
		t.Errorf("Rename: %d", code)
	}
	if e, ok := got.Get("cn=a,cn=full,dc=y," + deep(9)); !ok || dn.Depth(e.Name) != api.MaxRDNs {
		t.Errorf("Get: %q, %v", e, ok)
	}
	for _, more := range []int{-1, 0, 1} {
		got := treeOf(entriesOf(chain(long(900))...)...)
		all := got.All()
		size := api.MaxText + more - (900 - len("dc=x"))
		code := got.Rename("dc=x", "dc="+strings.Repeat("a", size-len("dc=")), true, "", false)
		if more > 0 {
			holdChange(t, got, "Rename", code, api.UnwillingToPerform, all)
		} else if longest := got.All()[len(all)-1].Name; code != api.Success || len(longest) != api.MaxText+more {
			t.Errorf("Rename: %d, %d bytes", code, len(longest))
		}
	}
}

// P10.4: a tree of as many entries as may be, moved, and moved back.
func TestRenameFull(t *testing.T) {
	got := treeOf(full()...)
	want := full()
	for i := range want {
		want[i].Name = strings.TrimSuffix(want[i].Name, "dc=x") + "dc=a"
	}
	want[0] = of("dc=a")
	holdChange(t, got, "Rename", got.Rename("dc=x", "dc=a", true, "", false), api.Success, want)
	holdChange(t, got, "Rename", got.Rename("dc=a", "dc=x", true, "", true), api.Success, full())
	if code := got.Rename("cn=007,dc=x", "cn=7", true, "", true); code != api.Success {
		t.Errorf("Rename: %d", code)
	}
	if code := got.Rename("dc=x", "dc=x", true, "cn=7", true); code != api.Success {
		t.Errorf("Rename: %d", code)
	}
	if names := got.Children("dc=x,cn=7"); len(names) != api.MaxEntries-2 || got.Len() != api.MaxEntries {
		t.Errorf("Children: %q", names)
	}
}
