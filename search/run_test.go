package search_test

import (
	"fmt"
	"math"
	"slices"
	"strings"
	"testing"

	"verger/api"
	"verger/dn"
	"verger/policy"
	"verger/search"
	"verger/view"
)

// house is a tree with some aliases, in the order of names.
func house() []api.Entry {
	return []api.Entry{
		plain("dc=x"), plain("cn=a,dc=x", attr("mail", "a@x")), plain("cn=b,cn=a,dc=x"), plain("cn=b c,dc=x", attr("mail", "c@x")), plain("ou=p,dc=x"),
		alias("cn=in,ou=p,dc=x", "cn=a,dc=x"), alias("cn=out,ou=p,dc=x", "OU=Q,o=y"), plain("cn=r,ou=p,dc=x", attr("mail", "a@x", "r@x")), alias("cn=up,ou=p,dc=x", "dc=x"),
		plain("o=y"), plain("ou=q,o=y"), alias("cn=back,ou=q,o=y", "ou=p,dc=x"), alias("cn=lost,ou=q,o=y", "cn=gone"), plain("cn=s,ou=q,o=y"), alias("cn=self,ou=q,o=y", "cn=self,ou=q,o=y"),
	}
}

// P14.2: the codes of the Base come ahead of all that is found, whatever else
// is asked for.
func TestBaseCodes(t *testing.T) {
	list := append(house(), alias("dc=long", rising(api.MaxRDNs)))
	for scope := api.Base; scope <= api.Sub; scope++ {
		for deref := api.Never; deref <= api.Always; deref++ {
			r := search.Request{Scope: scope, Deref: deref, Filter: all(), Size: scope}
			for _, name := range noNames() {
				r.Base = name
				hold(t, list, r, api.InvalidDNSyntax)
			}
			for _, name := range []string{"dc=gone", "cn=gone,dc=x", "cn=b", "cn=a,cn=b,cn=a,dc=x", `cn=a\,dc=x`} {
				r.Base = name
				hold(t, list, r, api.NoSuchObject)
			}
			// What is led away is found as it is, or not at all, unless the base
			// is followed.
			follows := deref == api.Finding || deref == api.Always
			for name, code := range map[string]int{
				"cn=no,cn=in,ou=p,dc=x": api.AliasProblem, "cn=no,CN=UP,ou=p,dc=x": api.AliasProblem, "ou=no,cn=back,ou=q,o=y": api.AliasProblem, "cn=no,cn=lost,ou=q,o=y": api.AliasProblem,
				"cn=no,cn=self,ou=q,o=y": api.AliasDereferencing, "cn=no,dc=long": api.AliasProblem,
			} {
				if !follows {
					code = api.NoSuchObject
				}
				r.Base = name
				hold(t, list, r, code)
			}
			if follows {
				r.Base = "cn=lost,ou=q,o=y"
				hold(t, list, r, api.AliasProblem)
				r.Base = "cn=self,ou=q,o=y"
				hold(t, list, r, api.AliasDereferencing)
			}
		}
	}
}

// rising makes a text of a name of so many parts.
func rising(parts int) string {
	var list []string
	for i := range parts {
		list = append(list, fmt.Sprintf("cn=%d", i))
	}
	return strings.Join(list, ",")
}

// P14.2: without aliases that are followed, a search has one place. An alias
// that the base's name is leads to no other, unless Deref says so.
func TestOnePlace(t *testing.T) {
	list := house()
	for _, c := range []struct {
		base  string
		scope int
		want  []string
	}{
		{"", api.Base, nil},
		{"", api.One, []string{"dc=x", "o=y"}},
		{"", api.Sub, namesOf(list)},
		{"dc=x", api.Base, []string{"dc=x"}},
		{"DC=X", api.One, []string{"cn=a,dc=x", "cn=b c,dc=x", "ou=p,dc=x"}},
		{`dc=\58`, api.Sub, namesOf(list)[:9]},
		{"ou=p,dc=x", api.One, namesOf(list)[5:9]},
		{"OU=P,dc=x", api.Sub, namesOf(list)[4:9]},
		{"cn=b,cn=a,dc=x", api.Base, []string{"cn=b,cn=a,dc=x"}},
		{"cn=b,cn=a,dc=x", api.One, nil},
		{"cn=b,cn=a,dc=x", api.Sub, []string{"cn=b,cn=a,dc=x"}},
		{"cn=in,ou=p,dc=x", api.Base, []string{"cn=in,ou=p,dc=x"}},
		{"cn=in,ou=p,dc=x", api.One, nil},
		{"CN=IN,ou=p,dc=x", api.Sub, []string{"cn=in,ou=p,dc=x"}},
		{"cn=lost,ou=q,o=y", api.Sub, []string{"cn=lost,ou=q,o=y"}},
		{"cn=self,ou=q,o=y", api.Base, []string{"cn=self,ou=q,o=y"}},
	} {
		holdNames(t, list, search.Request{Base: c.base, Scope: c.scope, Filter: all()}, c.want...)
		if c.scope == api.Base || len(c.want) == 1 {
			holdNames(t, list, search.Request{Base: c.base, Scope: c.scope, Deref: api.Searching, Filter: all()}, c.want...)
		}
	}
}

// P14.2: the base is followed where Deref has its bit 2, and just there; what
// is met then, isn't.
func TestBaseFollowed(t *testing.T) {
	list := append(house(), alias("cn=deep,o=y", "cn=up,ou=p,dc=x"), alias("dc=w", "o=y"))
	for _, c := range []struct {
		base  string
		scope int
		want  []string
	}{
		{"cn=in,ou=p,dc=x", api.Base, []string{"cn=a,dc=x"}},
		{"CN=In,Ou=P,dc=x", api.One, []string{"cn=b,cn=a,dc=x"}},
		{"cn=in,ou=p,dc=x", api.Sub, []string{"cn=a,dc=x", "cn=b,cn=a,dc=x"}},
		{"cn=b,cn=in,ou=p,dc=x", api.Sub, []string{"cn=b,cn=a,dc=x"}},
		{"cn=back,cn=out,ou=p,dc=x", api.One, namesOf(list)[5:9]},
		{"cn=deep,o=y", api.Sub, namesOf(list)[:9]},
		{"dc=w", api.Base, []string{"o=y"}},
		{"cn=back,ou=q,dc=w", api.Base, []string{"ou=p,dc=x"}},
		{"cn=out,cn=back,ou=q,dc=w", api.Sub, namesOf(list)[10:15]},
		{"ou=p,dc=x", api.One, namesOf(list)[5:9]},
	} {
		holdNames(t, list, search.Request{Base: c.base, Scope: c.scope, Deref: api.Finding, Filter: all()}, c.want...)
	}
	r := search.Request{Base: "cn=b,cn=in,ou=p,dc=x", Filter: all()}
	hold(t, list, r, api.NoSuchObject)
	r.Deref = api.Searching
	hold(t, list, r, api.NoSuchObject)
	r.Deref = api.Always
	holdNames(t, list, r, "cn=b,cn=a,dc=x")
}

// P14.2: aliases that are met are followed where Deref has its bit 1, and just
// there; each to a further place, once.
func TestMetFollowed(t *testing.T) {
	list := house()
	for _, c := range []struct {
		base  string
		scope int
		want  []string
	}{
		// All of ou=p's come from where they lead, itself alone.
		{"ou=p,dc=x", api.One, []string{"dc=x", "cn=a,dc=x", "cn=r,ou=p,dc=x", "ou=q,o=y"}},
		{"ou=q,o=y", api.One, []string{"ou=p,dc=x", "cn=s,ou=q,o=y"}},
		// From place to place.
		{"cn=in,ou=p,dc=x", api.Sub, []string{"cn=in,ou=p,dc=x"}},
		{"ou=q,o=y", api.Sub, []string{"dc=x", "cn=a,dc=x", "cn=b,cn=a,dc=x", "cn=b c,dc=x", "ou=p,dc=x", "cn=r,ou=p,dc=x", "ou=q,o=y", "cn=s,ou=q,o=y"}},
		{"ou=p,dc=x", api.Sub, []string{"dc=x", "cn=a,dc=x", "cn=b,cn=a,dc=x", "cn=b c,dc=x", "ou=p,dc=x", "cn=r,ou=p,dc=x", "ou=q,o=y", "cn=s,ou=q,o=y"}},
		{"o=y", api.One, []string{"ou=q,o=y"}},
		{"", api.Sub, []string{"dc=x", "cn=a,dc=x", "cn=b,cn=a,dc=x", "cn=b c,dc=x", "ou=p,dc=x", "cn=r,ou=p,dc=x", "o=y", "ou=q,o=y", "cn=s,ou=q,o=y"}},
		{"", api.One, []string{"dc=x", "o=y"}},
		{"", api.Base, nil},
	} {
		for _, deref := range []int{api.Searching, api.Always} {
			if deref == api.Always && strings.HasPrefix(c.base, "cn=in") {
				continue
			}
			holdNames(t, list, search.Request{Base: c.base, Scope: c.scope, Deref: deref, Filter: all()}, c.want...)
			turned := slices.Clone(list)
			slices.Reverse(turned)
			holdNames(t, turned, search.Request{Base: c.base, Scope: c.scope, Deref: deref, Filter: all()}, c.want...)
		}
	}
}

// P14.2: an alias is followed from its own name on, with all above it, as far
// as layer 13 goes; what leads to nothing is passed over.
func TestMetFar(t *testing.T) {
	r := search.Request{Base: "ou=t", Scope: api.Sub, Deref: api.Searching, Filter: all()}
	top := plain("ou=t")
	// Its own name is under an alias that leads elsewhere.
	list := []api.Entry{top, alias("cn=h,ou=t", "ou=u"), alias("cn=l,cn=h,ou=t", "cn=a"), plain("cn=a"), plain("ou=u"), plain("cn=l,ou=u")}
	holdNames(t, list, r, "ou=t", "ou=u", "cn=l,ou=u")
	// Without that, it is led from there on.
	list[5] = alias("cn=l,ou=u", "cn=a")
	holdNames(t, list, r, "cn=a", "ou=t", "ou=u")
	// Where that is nothing, nor is this.
	holdNames(t, list[:5], r, "ou=t", "ou=u")
	for length := 14; length <= 20; length++ {
		chain := []api.Entry{plain("cn=end"), top}
		for i := range length {
			target := fmt.Sprintf("cn=%02d", i+1)
			if i == length-1 {
				target = "CN=End"
			}
			chain = append(chain, alias(fmt.Sprintf("cn=%02d", i), target))
		}
		chain = append(chain, alias("cn=s,ou=t", "cn=00"))
		if length < 16 {
			holdNames(t, chain, r, "cn=end", "ou=t")
		} else {
			holdNames(t, chain, r, "ou=t")
		}
	}
	// Two that lead to one, one that leads around, one that leads too deep.
	list = []api.Entry{plain("cn=a"), plain("cn=b,cn=a"), top, alias("cn=one,ou=t", "cn=a"), alias("cn=ring,ou=t", "cn=round,ou=t"), alias("cn=round,ou=t", "cn=ring,ou=t"), alias("cn=two,ou=t", "CN=A"), alias("cn=down,ou=t", "cn=x,cn=down,ou=t"), plain("cn=z,ou=t")}
	holdNames(t, list, r, "cn=a", "cn=b,cn=a", "ou=t", "cn=z,ou=t")
	r.Scope = api.One
	holdNames(t, list, r, "cn=a", "cn=z,ou=t")
}

// P14.2: the place's own name isn't met, even if it is an alias's; what is
// under it is.
func TestOwnName(t *testing.T) {
	list := []api.Entry{alias("cn=al", "ou=b"), plain("cn=c,cn=al"), alias("cn=d,cn=al", "cn=e,cn=al"), alias("cn=q", "cn=al"), plain("ou=b"), plain("cn=e,ou=b"), plain("cn=c,cn=d,ou=b"), alias("cn=d,ou=b", "cn=f")}
	r := search.Request{Base: "CN=AL", Deref: api.Searching, Filter: all()}
	holdNames(t, list, r, "cn=al")
	r.Scope = api.One
	// Under the alias, a name is led by that one first.
	holdNames(t, list, r, "cn=c,cn=al")
	r.Scope = api.Sub
	holdNames(t, list, r, "cn=al", "cn=c,cn=al")
	r.Filter = parsed("(!(objectClass=alias))")
	holdNames(t, list, r, "cn=c,cn=al")
	// Led from under it to its target, the whole of which comes, in the scope
	// Sub.
	list[7] = alias("cn=d,ou=b", "ou=b")
	holdNames(t, list, r, "cn=c,cn=al", "ou=b", "cn=c,cn=d,ou=b", "cn=e,ou=b")
	r.Scope = api.One
	holdNames(t, list, r, "cn=c,cn=al", "ou=b")
	// The name of the first place is met in another one.
	list = []api.Entry{plain("dc=x"), alias("cn=al,dc=x", "ou=b"), alias("cn=d,cn=al,dc=x", "cn=gone"), plain("ou=b"), alias("cn=d,ou=b", "dc=x"), plain("cn=e,ou=b")}
	r = search.Request{Base: "cn=al,dc=x", Scope: api.Sub, Deref: api.Searching, Filter: all()}
	holdNames(t, list, r, "dc=x", "cn=al,dc=x", "ou=b", "cn=e,ou=b")
	// Alike ones of the own name aren't met either.
	twice := []api.Entry{plain("cn=al", attr("mail", "1")), alias("cn=al", "ou=b"), plain("ou=b"), alias("cn=al", "cn=z"), plain("cn=z")}
	for scope, want := range map[int][]api.Entry{api.Base: {twice[0]}, api.One: nil, api.Sub: {twice[0]}} {
		hold(t, twice, search.Request{Base: "cn=al", Scope: scope, Deref: api.Searching, Filter: all()}, api.Success, want...)
	}
	hold(t, twice, search.Request{Base: "cn=al", Scope: api.Sub, Deref: api.Searching, Filter: parsed("(objectClass=alias)")}, api.Success, twice[1])
}

// P14.2: what layer 9 tells to be no alias is as all other entries.
func TestMetNoAlias(t *testing.T) {
	class, target := attr("objectClass", "alias"), attr("aliasedObjectName", "cn=a")
	for _, attrs := range [][]api.Attr{
		{class}, {attr("aliasedObjectName", "a"), class}, {target}, {attr("aliasedObjectName"), class}, {target, attr("objectClass", "aliases")}, {attr("AliasedObjectName", "cn=a"), class},
	} {
		list := []api.Entry{plain("cn=a"), plain("dc=x"), {Name: "cn=al,dc=x", Attrs: attrs}}
		hold(t, list, search.Request{Base: "dc=x", Scope: api.One, Deref: api.Always, Filter: parsed("(&)")}, api.Success, list[2])
		hold(t, list, search.Request{Base: "cn=al,dc=x", Deref: api.Always, Filter: parsed("(&)")}, api.Success, list[2])
		// So it is under an alias.
		list = append(list, alias("cn=h,dc=x", "cn=gone"), api.Entry{Name: "cn=al,cn=h,dc=x", Attrs: attrs})
		hold(t, list, search.Request{Base: "dc=x", Scope: api.Sub, Deref: api.Always, Filter: parsed("(&)")}, api.Success, list[1], list[2], list[4])
	}
	// A view has no alias of which it shows not enough.
	whole := house()
	rules := []policy.Rule{{Who: "*", Target: "ou=q,o=y", Attr: "aliasedObjectName", Rights: 1}, {Who: "*", Target: "cn=out,ou=p,dc=x", Attr: "objectClass", Rights: 1}, {Who: "*", Target: "cn=in,ou=p,dc=x", Rights: 1}, {Who: "*", Rights: 1, Allow: true}}
	seen := view.Of(whole, rules, "")
	r := search.Request{Base: "ou=q,o=y", Scope: api.One, Deref: api.Always, Filter: parsed("(&)")}
	holdNames(t, seen, r, "cn=back,ou=q,o=y", "cn=lost,ou=q,o=y", "cn=s,ou=q,o=y", "cn=self,ou=q,o=y")
	r.Base = "ou=p,dc=x"
	holdNames(t, seen, r, "dc=x", "cn=out,ou=p,dc=x", "cn=r,ou=p,dc=x")
	r.Base = "cn=in,ou=p,dc=x"
	hold(t, seen, r, api.NoSuchObject)
	holdNames(t, whole, r, "cn=b,cn=a,dc=x")
}

// P14.2: just that is found for which the filter is TRUE, by all attributes of
// it, those that aren't asked for too.
func TestFiltered(t *testing.T) {
	list := house()
	for text, want := range map[string][]string{
		"(mail=A@x)":                          {"cn=a,dc=x", "cn=r,ou=p,dc=x"},
		"(mail=*)":                            {"cn=a,dc=x", "cn=b c,dc=x", "cn=r,ou=p,dc=x"},
		"(&(mail=*)(!(mail=a*)))":             {"cn=b c,dc=x"},
		"(|)":                                 nil,
		"(!(&))":                              nil,
		"(cn=b*c)":                            {"cn=b c,dc=x"},
		"(cn~=BC)":                            {"cn=b c,dc=x"},
		"(aliasedObjectName=DC=\\58)":         {"cn=up,ou=p,dc=x"},
		"(objectClass=alias)":                 {"cn=in,ou=p,dc=x", "cn=out,ou=p,dc=x", "cn=up,ou=p,dc=x", "cn=back,ou=q,o=y", "cn=lost,ou=q,o=y", "cn=self,ou=q,o=y"},
		"(|(sn=x)(o=y))":                      {"o=y"},
		"(&(sn=x)(o=y))":                      nil,
		"(sn=x)":                              nil,
		"(!(sn=x))":                           nil,
		"(userPassword>=a)":                   nil,
		"(!(userPassword>=a))":                nil,
		"(&(objectClass=top)(ou=*)(!(ou=q)))": {"ou=p,dc=x"},
		"(&(objectClass=top)(dc>=x)(!(cn=*))(&))":  {"dc=x"},
		"(!(|(cn=*)(ou=*)(o=*)))":                  {"dc=x"},
		"(!(|(cn=*)(ou=*)(o=*)(serialNumber<=x)))": nil,
	} {
		for _, attrs := range [][]string{nil, {"*"}, {"dc"}, {"1.1"}} {
			for _, typesOnly := range []bool{false, true} {
				r := search.Request{Scope: api.Sub, Filter: parsed(text), Attrs: attrs, TypesOnly: typesOnly}
				if got := search.Run(list, r); got.Code != api.Success || !slices.Equal(namesOf(got.Entries), want) {
					t.Errorf("%s: %d, %q, not %q", text, got.Code, namesOf(got.Entries), want)
				}
			}
		}
	}
	// Aliases that are followed lead on, be they looked for or not.
	r := search.Request{Base: "ou=q,o=y", Scope: api.Sub, Deref: api.Searching, Filter: parsed("(mail=*)")}
	holdNames(t, list, r, "cn=a,dc=x", "cn=b c,dc=x", "cn=r,ou=p,dc=x")
	r.Filter = parsed("(objectClass=alias)")
	holdNames(t, list, r)
}

// P14.2: of what is found is answered what Select tells.
func TestSelected(t *testing.T) {
	list := house()
	r := search.Request{Base: "ou=p,dc=x", Scope: api.One, Deref: api.Searching, Filter: parsed("(mail=*)"), Attrs: []string{"MAIL", "ou"}}
	mail := attr("mail", "a@x")
	hold(t, list, r, api.Success, api.Entry{Name: "cn=a,dc=x", Attrs: []api.Attr{mail}}, api.Entry{Name: "cn=r,ou=p,dc=x", Attrs: []api.Attr{attr("mail", "a@x", "r@x")}})
	r.TypesOnly = true
	hold(t, list, r, api.Success, api.Entry{Name: "cn=a,dc=x", Attrs: []api.Attr{attr("mail")}}, api.Entry{Name: "cn=r,ou=p,dc=x", Attrs: []api.Attr{attr("mail")}})
	r.Attrs = []string{"*", "mail"}
	hold(t, list, r, api.Success, api.Entry{Name: "cn=a,dc=x", Attrs: []api.Attr{attr("cn"), attr("mail"), attr("objectClass")}}, api.Entry{Name: "cn=r,ou=p,dc=x", Attrs: []api.Attr{attr("cn"), attr("mail"), attr("objectClass")}})
	r.Attrs = []string{"ou"}
	hold(t, list, r, api.Success, api.Entry{Name: "cn=a,dc=x"}, api.Entry{Name: "cn=r,ou=p,dc=x"})
}

// P14.2: the first ones by their names, where they are more than the Size.
func TestSize(t *testing.T) {
	list := house()
	turned := slices.Clone(list)
	slices.Reverse(turned)
	for _, c := range []struct {
		r    search.Request
		want []string
	}{
		{search.Request{Scope: api.Sub, Filter: all()}, namesOf(list)},
		{search.Request{Base: "ou=p,dc=x", Scope: api.One, Deref: api.Searching, Filter: all()}, []string{"dc=x", "cn=a,dc=x", "cn=r,ou=p,dc=x", "ou=q,o=y"}},
		{search.Request{Base: "cn=lost,ou=q,o=y", Filter: all()}, []string{"cn=lost,ou=q,o=y"}},
		{search.Request{Base: "dc=x", Scope: api.Sub, Filter: parsed("(mail=*)")}, []string{"cn=a,dc=x", "cn=b c,dc=x", "cn=r,ou=p,dc=x"}},
		{search.Request{Base: "dc=x", Filter: parsed("(mail=*)")}, nil},
		{search.Request{Filter: all()}, nil},
	} {
		for size := 1; size <= len(list)+1; size++ {
			for _, l := range [][]api.Entry{list, turned} {
				r := c.r
				r.Size = size
				code, want := api.Success, c.want
				if len(want) > size {
					code, want = api.SizeLimitExceeded, want[:size]
				}
				if got := search.Run(l, r); got.Code != code || !slices.Equal(namesOf(got.Entries), want) {
					t.Errorf("%s: %d, %q, not %d, %q", showRequest(r), got.Code, namesOf(got.Entries), code, want)
				}
			}
		}
		for _, size := range []int{0, math.MaxInt} {
			r := c.r
			r.Size = size
			holdNames(t, list, r, c.want...)
		}
	}
	// The codes of the Base come first.
	hold(t, list, search.Request{Base: "dc=gone", Scope: api.Sub, Filter: all(), Size: 1}, api.NoSuchObject)
}

// P14.2: of several found of one name the first one alone is answered.
func TestAlike(t *testing.T) {
	first, second, third := plain("cn=a,dc=x", attr("mail", "1"), attr("uid", "u")), plain("cn=a,dc=x", attr("mail", "2")), plain("cn=a,dc=x", attr("mail", "3"), attr("uid", "u"))
	list := []api.Entry{alias("cn=al,dc=x", "cn=a,dc=x"), first, plain("dc=x"), second, alias("cn=am,dc=x", "dc=x"), third}
	for _, c := range []struct {
		text string
		want api.Entry
	}{{"(mail=*)", first}, {"(mail>=2)", second}, {"(mail=3)", third}, {"(uid=u)", first}, {"(&(uid=u)(!(mail=1)))", third}} {
		for deref := api.Never; deref <= api.Always; deref++ {
			for _, size := range []int{0, 1} {
				for scope := api.Base; scope <= api.Sub; scope++ {
					base := "dc=x"
					if scope == api.Base {
						base = "cn=a,dc=x"
					}
					hold(t, list, search.Request{Base: base, Scope: scope, Deref: deref, Filter: parsed(c.text), Size: size}, api.Success, c.want)
				}
			}
		}
	}
	// One of them may be an alias: that is followed, another one is found.
	list = []api.Entry{plain("dc=x"), alias("cn=a,dc=x", "ou=b"), second, first, plain("ou=b")}
	r := search.Request{Base: "dc=x", Scope: api.One, Deref: api.Searching, Filter: all()}
	hold(t, list, r, api.Success, second, list[4])
	slices.Reverse(list)
	hold(t, list, r, api.Success, first, list[0])
	r.Deref = api.Never
	hold(t, list, r, api.Success, first)
}

// P14.2: the answer is in the order of names, which isn't that of their texts.
func TestOrder(t *testing.T) {
	names := []string{"cn=z", `dc=a\,b`, "dc=x", "cn=a,dc=x", "cn=b,cn=a,dc=x", "cn=b b,cn=a,dc=x", "cn=a b,dc=x", "cn=a,cn=a b,dc=x", "cn=a!,dc=x", "cn=a,cn=a!,dc=x", `cn=a\+,dc=x`, "cn=a+ou=b,dc=x", "cn=aa,dc=x", "ou=a,dc=x", "dc=x x", "cn=a,dc=x x", "dc=xx", "o=a", "serialNumber=10,o=a", "serialNumber=9,o=a"}
	slices.SortFunc(names, dn.Compare)
	var list []api.Entry
	for _, name := range names {
		list = append(list, plain(name))
	}
	for range list {
		list = append(list[1:], list[0])
		holdNames(t, list, search.Request{Scope: api.Sub, Filter: all()}, names...)
		list[3], list[7] = list[7], list[3]
		holdNames(t, list, search.Request{Scope: api.Sub, Filter: all()}, names...)
	}
	if !slices.IsSortedFunc(names, dn.Compare) || slices.IsSorted(names) {
		t.Errorf("%q", names)
	}
}

// P14.2: as many entries as may be, most of them aliases, deep down.
func TestFull(t *testing.T) {
	var list []api.Entry
	name := "dc=x"
	for range api.MaxRDNs - 1 {
		list = append(list, plain(name))
		name = "cn=a," + name
	}
	low := list[len(list)-1].Name
	for i := 0; len(list) < api.MaxEntries; i++ {
		list = append(list, alias(fmt.Sprintf("cn=l%03d,%s", i, low), list[i%(api.MaxRDNs-1)].Name))
	}
	for _, e := range list[:api.MaxRDNs-1] {
		holdNames(t, list, search.Request{Base: e.Name, Scope: api.Sub, Deref: api.Searching, Filter: all()}, namesOf(list[:api.MaxRDNs-1])...)
	}
	holdNames(t, list, search.Request{Base: low, Scope: api.One, Deref: api.Searching, Filter: all()}, namesOf(list[:api.MaxRDNs-1])...)
	got := search.Run(list, search.Request{Scope: api.Sub, Filter: all(), Size: api.MaxEntries - 1})
	if got.Code != api.SizeLimitExceeded || !slices.Equal(namesOf(got.Entries), namesOf(list[:api.MaxEntries-1])) {
		t.Errorf("%d, %d entries", got.Code, len(got.Entries))
	}
}
