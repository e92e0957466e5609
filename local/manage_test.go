package local_test

import (
	"math"
	"slices"
	"testing"

	"verger/api"
	"verger/entry"
	"verger/local"
	"verger/part"
	"verger/policy"
	"verger/search"
)

// below is the entry that Manage tells of a Sub.
func below(name, ref string) api.Entry {
	return api.Entry{Name: name, Attrs: []api.Attr{attr("objectClass", "referral"), attr("ref", ref)}}
}

// holdManage holds Manage to a code, and to what it answers.
func holdManage(t *testing.T, c part.Config, rules []policy.Rule, subject string, server int, r search.Request, code int, want ...api.Entry) {
	t.Helper()
	if got := local.Manage(c, rules, server, subject, r); !same(got, local.Result{Code: code, Entries: want}) {
		t.Errorf("%d, %+v: %s, not %d, %q", server, r, show(got), code, want)
	}
}

// P17.2: all that lies at a server, and its Subs that lie elsewhere as entries,
// in the order of names, whatever the Deref; without pointers.
func TestManage(t *testing.T) {
	list, c := county()
	first := slices.Concat(list[:9], []api.Entry{below("ou=b,dc=x", "ldap://1")}, list[13:15], []api.Entry{below("ou=i,ou=f,dc=x", "ldap://1")})
	second := []api.Entry{list[9], list[10], below("ou=d,ou=b,dc=x", "ldap://2"), list[15]}
	third := slices.Concat(list[11:13], list[16:])
	for deref := api.Never; deref <= api.Always; deref++ {
		for server, all := range [][]api.Entry{first, second, third, nil} {
			holdManage(t, c, everything(), "", server, asked{0, "", api.Sub, deref}.request(), api.Success, all...)
			holdManage(t, c, everything(), "", server, asked{0, "", api.Base, deref}.request(), api.Success)
		}
		holdManage(t, c, everything(), "", 0, asked{0, "", api.One, deref}.request(), api.Success, list[0])
		holdManage(t, c, everything(), "", 1, asked{0, "", api.One, deref}.request(), api.Success)
		holdManage(t, c, everything(), "", 2, asked{0, "", api.One, deref}.request(), api.Success, list[16])
		holdManage(t, c, everything(), "", 0, asked{0, "DC=X", api.Sub, deref}.request(), api.Success, first...)
		holdManage(t, c, everything(), "", 0, asked{0, "ou=f,dc=x", api.One, deref}.request(), api.Success, list[14], first[12])
		holdManage(t, c, everything(), "", 0, asked{0, `OU=\42,dc=x`, api.Base, deref}.request(), api.Success, first[9])
		holdManage(t, c, everything(), "", 1, asked{0, "ou=d,ou=b,dc=x", api.Sub, deref}.request(), api.Success, second[2])
		// An alias is as all others: it isn't followed.
		holdManage(t, c, everything(), "", 0, asked{0, "cn=near,dc=x", api.Sub, deref}.request(), api.Success, list[6])
		for _, base := range []string{"cn=g,cn=near,dc=x", "cn=c,ou=b,dc=x", "o=y", "cn=gone,dc=x"} {
			holdManage(t, c, everything(), "", 0, asked{0, base, api.Sub, deref}.request(), api.NoSuchObject)
		}
		for _, base := range []string{"dc=x", "ou=f,dc=x", "ou=i"} {
			holdManage(t, c, everything(), "", 1, asked{0, base, api.Sub, deref}.request(), api.NoSuchObject)
			holdManage(t, c, everything(), "", 3, asked{0, base, api.Sub, deref}.request(), api.NoSuchObject)
		}
		for _, base := range noNames() {
			holdManage(t, c, everything(), "", 0, asked{0, base, api.Sub, deref}.request(), api.InvalidDNSyntax)
		}
	}
}

// P17.2: a Sub's server is told by its number, be it there or not; a Sub that is
// one of the server's own contexts is none, be that empty, and be it said to lie
// elsewhere. The Top is told by nobody.
func TestManageSubs(t *testing.T) {
	subs := []part.Cut{cut("ou=z,dc=x", math.MaxInt), cut("ou=b,dc=x", 1), cut("ou=a,dc=x", -1), cut("o=y", 10), cut("ou=c,dc=x", 0), cut("dc=x", 0)}
	c := over([]part.Context{context("o=w", thing("dc=q,o=v")), {Name: "dc=x", Entries: things("cn=a,dc=x"), Subs: subs}, {Name: "ou=b,dc=x", Subs: subs[:1]}}, []part.Context{context("ou=c,dc=x", thing("ou=c,dc=x"))})
	c.Top = []part.Cut{cut("dc=x", 0), cut("dc=z", 1)}
	holdManage(t, c, everything(), "", 0, asked{base: "", scope: api.Sub}.request(), api.Success,
		thing("cn=a,dc=x"), below("ou=a,dc=x", "ldap://-1"), below("ou=c,dc=x", "ldap://0"), below("ou=z,dc=x", "ldap://9223372036854775807"), thing("dc=q,o=v"), below("o=y", "ldap://10"))
	holdManage(t, c, everything(), "", 1, asked{base: "", scope: api.Sub}.request(), api.Success, thing("ou=c,dc=x"))
}

// P17.2: of alike names the first one counts, by the contexts' order, of each
// entries ahead of Subs; the others aren't there.
func TestManageAlike(t *testing.T) {
	e := func(name, mail string) api.Entry { return thing(name, attr("mail", mail)) }
	c := over([]part.Context{
		{Name: "dc=x", Entries: []api.Entry{e("dc=x", "1"), e("cn=a,dc=x", "1"), e("dc=x", "2"), e("ou=b,dc=x", "1")}, Subs: []part.Cut{cut("ou=b,dc=x", 1), cut("cn=c,o=y", 2), cut("ou=d,dc=x", 3), cut("ou=d,dc=x", 4)}},
		{Name: "o=y", Entries: []api.Entry{e("o=y", "1"), e("cn=c,o=y", "3"), e("cn=a,dc=x", "3")}, Subs: []part.Cut{cut("ou=d,dc=x", 5)}},
	})
	all := search.Request{Scope: api.Sub, Filter: parsed("(objectClass=*)")}
	first, second := below("cn=c,o=y", "ldap://2"), below("ou=d,dc=x", "ldap://3")
	holdManage(t, c, everything(), "", 0, all, api.Success, e("dc=x", "1"), e("cn=a,dc=x", "1"), e("ou=b,dc=x", "1"), second, e("o=y", "1"), first)
	for text, want := range map[string][]api.Entry{"(mail>=2)": nil, "(objectClass=referral)": {second, first}, "(ref=*)": {second, first}, "(ref=ldap://5)": nil, "(ref=ldap://2)": {first}} {
		all.Filter = parsed(text)
		holdManage(t, c, everything(), "", 0, all, api.Success, want...)
	}
	slices.Reverse(c.Servers[0].Contexts)
	all.Filter = parsed("(objectClass=*)")
	holdManage(t, c, everything(), "", 0, all, api.Success, e("dc=x", "1"), e("cn=a,dc=x", "3"), e("ou=b,dc=x", "1"), below("ou=d,dc=x", "ldap://5"), e("o=y", "1"), e("cn=c,o=y", "3"))
}

// P17.2: what is asked for is answered, and no more than Size.
func TestManageAnswered(t *testing.T) {
	list, c := county()
	r := search.Request{Base: "ou=f,dc=x", Scope: api.Sub, Filter: parsed("(objectClass=*)"), Attrs: []string{"REF", "ou"}}
	want := []api.Entry{{Name: "ou=f,dc=x", Attrs: []api.Attr{attr("ou", "f")}}, {Name: "cn=g,ou=f,dc=x"}, {Name: "ou=i,ou=f,dc=x", Attrs: []api.Attr{attr("ref", "ldap://1")}}}
	holdManage(t, c, everything(), "", 0, r, api.Success, want...)
	for size := range 5 {
		r.Size = size
		if size == 1 || size == 2 {
			holdManage(t, c, everything(), "", 0, r, api.SizeLimitExceeded, want[:size]...)
		} else {
			holdManage(t, c, everything(), "", 0, r, api.Success, want...)
		}
	}
	r.TypesOnly = true
	want[0].Attrs[0].Values, want[2].Attrs[0].Values = nil, nil
	holdManage(t, c, everything(), "", 0, r, api.Success, want...)
	for text, want := range map[string][]api.Entry{"(aliasedObjectName=*)": {list[17], list[18]}, "(cn=h)": {list[19]}, "(sn=*)": nil} {
		holdManage(t, c, everything(), "", 2, search.Request{Scope: api.Sub, Filter: parsed(text)}, api.Success, want...)
	}
}

// P17.2: what Manage tells of Subs is seen by the rules as all else is, though
// no such entry is formed.
func TestManageSeen(t *testing.T) {
	_, c := county()
	r := search.Request{Base: "ou=i,ou=f,dc=x", Scope: api.Base, Filter: parsed("(&)")}
	holdSeen := func(subject string, rules []policy.Rule, types ...string) {
		t.Helper()
		want := below("ou=i,ou=f,dc=x", "ldap://1")
		want.Attrs = slices.DeleteFunc(want.Attrs, func(a api.Attr) bool { return !slices.Contains(types, a.Type) })
		holdManage(t, c, rules, subject, 0, r, api.Success, want)
	}
	holdSeen("", everything(), "objectClass", "ref")
	holdSeen("", everything(forbid("ou=i,ou=f,dc=x", "ref")), "objectClass")
	holdSeen("", everything(forbid("", "objectClass")), "ref")
	holdSeen("", everything(forbid("dc=x", "objectClass"), forbid("ou=f,dc=x", "ref")))
	holdSeen("", everything(forbid("", "ou"), forbid("", "cn")), "objectClass", "ref")
	holdSeen("", []policy.Rule{{Who: "*", Target: "ou=i,ou=f,dc=x", Attr: "ref", Rights: 62, Allow: true}, forbid("ou=i,ou=f,dc=x", "ref"), {Who: "*", Target: "dc=x", Rights: 63, Allow: true}}, "objectClass")
	own := []policy.Rule{{Who: "=", Attr: "ref", Rights: 1, Allow: true}, {Who: "@dc=x", Attr: "ref", Rights: 1}, {Who: "@dc=x", Rights: 1, Allow: true}}
	holdSeen("OU=I,ou=f,dc=x", own, "objectClass", "ref")
	holdSeen("cn=a,dc=x", own, "objectClass")
	// Of the names above all but the root's have to be seen, by the names alone.
	allow := func(target string) policy.Rule {
		return policy.Rule{Who: "*", Target: target, Rights: 1, Allow: true}
	}
	for _, rules := range [][]policy.Rule{
		nil, everything(policy.Rule{}), everything(forbid("ou=i,ou=f,dc=x", "")), everything(forbid("ou=f,dc=x", "")), everything(forbid("dc=x", "")), {allow("ou=f,dc=x")}, {allow("ou=i,ou=f,dc=x")},
		everything(allow("ou=i,ou=f,dc=x"), forbid("ou=f,dc=x", "")), everything(allow("ou=f,dc=x"), forbid("dc=x", "")),
		{{Who: "*", Rights: 62, Allow: true}}, {{Who: "*", Attr: "ref", Rights: 1, Allow: true}, {Who: "*", Attr: "objectClass", Rights: 1, Allow: true}},
	} {
		holdManage(t, c, rules, "", 0, r, api.NoSuchObject)
	}
	for _, subject := range []string{"", "o=y", "x", "cn=a,dc=x,"} {
		holdManage(t, c, own, subject, 0, r, api.NoSuchObject)
	}
	holdSeen("", []policy.Rule{allow("dc=x"), forbid("", "")}, "objectClass", "ref")
	lone := over([]part.Context{{Name: "o=y", Subs: []part.Cut{cut("cn=a,ou=b,dc=x", 1)}}})
	r.Base = "cn=a,ou=b,dc=x"
	holdManage(t, lone, everything(), "", 0, r, api.Success, below("cn=a,ou=b,dc=x", "ldap://1"))
	holdManage(t, lone, everything(forbid("dc=x", ""), allow("ou=b,dc=x")), "", 0, r, api.NoSuchObject)
}

// P17.2: entries are seen as layer 12 says.
func TestManageView(t *testing.T) {
	list, c := county()
	r := asked{base: "", scope: api.Sub}.request()
	holdManage(t, c, nil, "", 0, r, api.Success)
	holdManage(t, c, everything(forbid("dc=x", "")), "", 2, r, api.Success, list[16:]...)
	got := local.Manage(c, everything(forbid("ou=f,dc=x", ""), forbid("", "mail")), 0, "", r)
	want := slices.Concat(list[:9], []api.Entry{below("ou=b,dc=x", "ldap://1")})
	want[1] = thing("cn=a,dc=x")
	if got.Code != api.Success || !slices.EqualFunc(got.Entries, want, entry.Same) {
		t.Errorf("%s, not %q", show(got), want)
	}
}
