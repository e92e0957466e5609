package search_test

import (
	"fmt"
	"math"
	"slices"
	"strings"
	"testing"

	"verger/api"
	"verger/dn"
	"verger/entry"
	"verger/filter"
	"verger/search"
)

// attr makes an attribute.
func attr(typ string, values ...string) api.Attr {
	return api.Attr{Type: typ, Values: values}
}

// plain makes a formed entry of that name, with these attributes and what its
// name's first part says.
func plain(name string, more ...api.Attr) api.Entry {
	n, err := dn.Parse(name)
	if err != api.OK {
		panic(name)
	}
	attrs := append([]api.Attr{attr("objectClass", "top")}, more...)
	for _, pair := range n.Parts[0] {
		attrs = append(attrs, attr(pair.Type, pair.Value))
	}
	e, code := entry.Make(name, attrs)
	if code != api.Success {
		panic(name)
	}
	return e
}

// alias makes one of these that leads to the target.
func alias(name, target string) api.Entry {
	return plain(name, attr("objectClass", "alias"), attr("aliasedObjectName", target))
}

func parsed(text string) filter.Filter {
	f, err := filter.Parse(text)
	if err != api.OK {
		panic(text)
	}
	return f
}

// all is TRUE of every formed entry.
func all() filter.Filter {
	return parsed("(objectClass=*)")
}

// show tells entries, or their beginning.
func show(list []api.Entry) string {
	return fmt.Sprintf("%.900s", fmt.Sprintf("%q", list))
}

// showRequest tells a request, or its beginning.
func showRequest(r search.Request) string {
	return fmt.Sprintf("%.300q", fmt.Sprintf("%+v", r))
}

func namesOf(list []api.Entry) []string {
	var names []string
	for _, e := range list {
		names = append(names, e.Name)
	}
	return names
}

// hold holds Run to a code, and to what it answers.
func hold(t *testing.T, list []api.Entry, r search.Request, code int, want ...api.Entry) {
	t.Helper()
	got := search.Run(list, r)
	if got.Code != code || !slices.EqualFunc(got.Entries, want, entry.Same) {
		t.Errorf("Run(%s, %s): %d, %s, not %d, %s", show(list), showRequest(r), got.Code, show(got.Entries), code, show(want))
	}
}

// holdNames holds Run to answering, with Success, the entries of these names of
// the list, whole, the first ones of each.
func holdNames(t *testing.T, list []api.Entry, r search.Request, names ...string) {
	t.Helper()
	var want []api.Entry
	for _, name := range names {
		want = append(want, list[slices.Index(namesOf(list), name)])
	}
	hold(t, list, r, api.Success, want...)
}

// noNames are texts without a normal text.
func noNames() []string {
	return []string{
		" ", ",", "x", "cn=", "=a", "cn=a,", ",cn=a", "cn=a, dc=x", "sn=a", "cn=a+cn=b", `cn=a\`, "cn=\x00", "position=i", "*",
		strings.Repeat("cn=a,", api.MaxRDNs) + "cn=a", "cn=" + strings.Repeat("a", api.MaxText), strings.Repeat("dc=x,", 100000),
		// Its normal text is longer than it is.
		"cn=" + strings.Repeat("\x80", 200) + ",cn=" + strings.Repeat("\x80", 200),
	}
}

// unformed are filters that aren't formed.
func unformed() []filter.Filter {
	deep := filter.Filter{Kind: 7, Attr: "cn"}
	for range api.MaxNest {
		deep = filter.Filter{Kind: 2, Parts: []filter.Filter{deep}}
	}
	return []filter.Filter{
		{Kind: -1}, {Kind: 9, Attr: "cn"}, {Kind: 2}, {Kind: 3, Attr: "cn"}, {Kind: 7}, {Kind: 7, Attr: "cn", Value: "a"}, {Kind: 7, Attr: "2.5"},
		{Kind: 0, Parts: make([]filter.Filter, api.MaxFilter)}, {Kind: 0, Parts: []filter.Filter{{Kind: 4, Attr: "cn"}}}, deep,
	}
}

// P14.2: the chapter's examples.
func TestExamples(t *testing.T) {
	list := []api.Entry{plain("dc=x"), alias("cn=al,dc=x", "cn=b,ou=b"), alias("cn=lost,dc=x", "cn=gone"), plain("ou=b"), plain("cn=b,ou=b"), plain("cn=c,cn=b,ou=b")}
	for _, deref := range []int{api.Searching, api.Always} {
		holdNames(t, list, search.Request{Scope: api.Sub, Deref: deref, Filter: all()}, "dc=x", "ou=b", "cn=b,ou=b", "cn=c,cn=b,ou=b")
		holdNames(t, list, search.Request{Base: "dc=x", Scope: api.One, Deref: deref, Filter: all()}, "cn=b,ou=b")
	}
	for _, deref := range []int{api.Never, api.Finding} {
		holdNames(t, list, search.Request{Scope: api.Sub, Deref: deref, Filter: all()}, "dc=x", "cn=al,dc=x", "cn=lost,dc=x", "ou=b", "cn=b,ou=b", "cn=c,cn=b,ou=b")
		holdNames(t, list, search.Request{Base: "dc=x", Scope: api.One, Deref: deref, Filter: all()}, "cn=al,dc=x", "cn=lost,dc=x")
	}
}

// P14.1: requests that are formed, whatever their names, and Attrs, are.
func TestFormed(t *testing.T) {
	for _, f := range []filter.Filter{{}, all(), parsed("(!(|(cn=a*)(sn=x)))")} {
		for scope := 0; scope <= 2; scope++ {
			for deref := 0; deref <= 3; deref++ {
				for _, size := range []int{0, 1, 500, math.MaxInt} {
					for _, base := range append(noNames(), "", "dc=x") {
						for _, attrs := range [][]string{nil, {}, {"*", "sn", ""}, make([]string, 1000)} {
							if r := (search.Request{Base: base, Scope: scope, Deref: deref, Filter: f, Attrs: attrs, TypesOnly: size == 1, Size: size}); !search.Formed(r) {
								t.Error(showRequest(r))
							}
						}
					}
				}
			}
		}
	}
}

// notFormed are requests that aren't, each by one thing alone.
func notFormed() []search.Request {
	var list []search.Request
	for _, n := range []int{-1, 3, 4, 256, math.MinInt, math.MaxInt} {
		list = append(list, search.Request{Scope: n})
	}
	for _, n := range []int{-1, -3, 4, 5, 256, math.MinInt, math.MaxInt} {
		list = append(list, search.Request{Deref: n})
	}
	for _, n := range []int{-1, -2, math.MinInt} {
		list = append(list, search.Request{Size: n})
	}
	for _, f := range unformed() {
		list = append(list, search.Request{Filter: f})
	}
	return list
}

// P14.1, P14.2: what isn't formed; it is asked ahead of the Base.
func TestNotFormed(t *testing.T) {
	for _, r := range notFormed() {
		for _, base := range append(noNames(), "", "dc=x", "dc=gone", "cn=self") {
			r.Base = base
			if search.Formed(r) {
				t.Error(showRequest(r))
			}
			hold(t, []api.Entry{plain("dc=x"), alias("cn=self", "cn=self")}, r, api.ProtocolError)
		}
	}
}

// P14.1: of which attributes an entry's answer is.
func TestSelect(t *testing.T) {
	cn, mail, class := attr("cn", "A", "b"), attr("mail", "a@b"), attr("objectClass", "person", "top")
	e := api.Entry{Name: "cn=a,dc=x", Attrs: []api.Attr{cn, mail, class}}
	for _, c := range []struct {
		asked []string
		want  []api.Attr
	}{
		{nil, e.Attrs}, {[]string{}, e.Attrs}, {[]string{"*"}, e.Attrs}, {[]string{"sn", "*"}, e.Attrs}, {[]string{"*", "CN"}, e.Attrs},
		{[]string{"cn"}, []api.Attr{cn}}, {[]string{"CN"}, []api.Attr{cn}}, {[]string{"cN", "Cn", "cn"}, []api.Attr{cn}},
		// They stay in the entry's order.
		{[]string{"OBJECTCLASS", "mail"}, []api.Attr{mail, class}}, {[]string{"objectclass", "sn", "cn"}, []api.Attr{cn, class}},
		{[]string{"objectClass", "mail", "cn"}, e.Attrs},
		// These ask for none that is there.
		{[]string{"sn"}, nil}, {[]string{""}, nil}, {[]string{"1.1"}, nil}, {[]string{"+"}, nil}, {[]string{"**", " *", "* ", "*cn"}, nil}, {[]string{"c", "cnn", "cn ", " cn", "n"}, nil},
		{[]string{"cn,mail"}, nil}, {[]string{"uid", "serialNumber"}, nil}, {[]string{"c\x4f", "\x43\x0e", "\x03n", "#n", "c.", "cN;x"}, nil}, {make([]string, 3), nil},
	} {
		var types []api.Attr
		for _, a := range c.want {
			types = append(types, attr(a.Type))
		}
		// All else of the request doesn't matter.
		for _, r := range append(notFormed(), search.Request{}, search.Request{Base: "x", Scope: 1, Deref: 3, Size: 1, Filter: parsed("(cn=z)")}) {
			r.Attrs = c.asked
			if got := search.Select(e, r); !entry.Same(got, api.Entry{Name: e.Name, Attrs: c.want}) {
				t.Errorf("%q: %q", c.asked, got)
			}
			r.TypesOnly = true
			if got := search.Select(e, r); !entry.Same(got, api.Entry{Name: e.Name, Attrs: types}) {
				t.Errorf("%q: types %q", c.asked, got)
			}
		}
	}
}

// P14.1: only letters stand for one another.
func TestSelectLetters(t *testing.T) {
	for c := range 256 {
		for d := range 256 {
			typ, asked := "t"+string([]byte{byte(c)}), "T"+string([]byte{byte(d)})
			alike := c == d || c^d == 0x20 && ('a' <= c && c <= 'z' || 'A' <= c && c <= 'Z')
			got := search.Select(api.Entry{Attrs: []api.Attr{attr(typ)}}, search.Request{Attrs: []string{asked}})
			if len(got.Attrs) == 1 != alike {
				t.Errorf("%q, asked for as %q: %v", typ, asked, !alike)
			}
		}
	}
}

// P14.1: what is answered of what is no formed entry: it isn't asked.
func TestSelectUnformed(t *testing.T) {
	odd := api.Entry{Name: "x", Attrs: []api.Attr{attr("CN", "b"), attr(""), attr("cn"), attr("sn", "", "\xff"), attr("*", "s"), attr("CN", "a", "a"), attr("\xc3\x84", "o"), attr("k", "v")}}
	for _, c := range []struct {
		asked []string
		want  []int
	}{
		{nil, []int{0, 1, 2, 3, 4, 5, 6, 7}}, {[]string{"*"}, []int{0, 1, 2, 3, 4, 5, 6, 7}}, {[]string{"cN"}, []int{0, 2, 5}}, {[]string{"SN"}, []int{3}}, {[]string{""}, []int{1}},
		// Of these the case matters: they aren't letters.
		{[]string{"\xc3\x84"}, []int{6}}, {[]string{"\xc3\xa4"}, nil}, {[]string{"\u212a"}, nil}, {[]string{"K"}, []int{7}},
	} {
		want := api.Entry{Name: "x"}
		for _, i := range c.want {
			want.Attrs = append(want.Attrs, odd.Attrs[i])
		}
		if got := search.Select(odd, search.Request{Attrs: c.asked}); !entry.Same(got, want) {
			t.Errorf("%q: %q", c.asked, got)
		}
	}
	for _, e := range []api.Entry{{}, {Name: "dc=x"}, {Attrs: []api.Attr{}}} {
		if got := search.Select(e, search.Request{Attrs: []string{"cn"}, TypesOnly: true}); !entry.Same(got, api.Entry{Name: e.Name}) {
			t.Errorf("%q: %q", e, got)
		}
	}
}

// wood are entries whose names' texts have others' in them, out of order, one
// name twice.
func wood() []api.Entry {
	return []api.Entry{
		plain("cn=a,ou=b,dc=x", attr("mail", "1")), plain("ou=b,dc=x"), plain("dc=x"), plain("cn=c,cn=a,ou=b,dc=x"), alias("cn=al,ou=b,dc=x", "o=y"), plain(`ou=b\,b,dc=x`), plain("ou=bb,dc=x"), plain("dc=xx"), plain(`cn=q\,dc=x`),
		plain("cn=a+ou=b,dc=x"), plain("cn=z,cn=a+ou=b,dc=x"), plain("o=y"), plain("cn=a,ou=b,dc=x", attr("mail", "2")), plain("dc=x,o=y"), plain("cn=no,cn=gone,o=y"), alias("cn=al", "cn=al"), plain("cn=d,cn=al"),
	}
}

// P14.1: the entries of a scope, in the list's order, however the name is
// written; it need not be there.
func TestScope(t *testing.T) {
	list := wood()
	for _, c := range []struct {
		names          []string
		base, one, sub []int
	}{
		{[]string{""}, nil, []int{2, 7, 8, 11, 15}, []int{0, 1, 2, 3, 4, 5, 6, 7, 8, 9, 10, 11, 12, 13, 14, 15, 16}},
		{[]string{"dc=x", "DC=X", `dc=\58`, `dc=\ x`}, []int{2}, []int{1, 5, 6, 9}, []int{0, 1, 2, 3, 4, 5, 6, 9, 10, 12}},
		{[]string{"ou=b,dc=x", "OU=B,DC=X"}, []int{1}, []int{0, 4, 12}, []int{0, 1, 3, 4, 12}},
		{[]string{"cn=a,ou=b,dc=x", `CN=\41,Ou=b,dc=X`}, []int{0, 12}, []int{3}, []int{0, 3, 12}},
		{[]string{"cn=a+ou=b,dc=x", "OU=B+CN=A,DC=X"}, []int{9}, []int{10}, []int{9, 10}},
		{[]string{`ou=b\,b,dc=x`, `OU=B\2cB,dc=x`}, []int{5}, nil, []int{5}},
		{[]string{"cn=c,cn=a,ou=b,dc=x"}, []int{3}, nil, []int{3}},
		{[]string{"o=y"}, []int{11}, []int{13}, []int{11, 13, 14}},
		{[]string{"cn=gone,o=y"}, nil, []int{14}, []int{14}},
		// Aliases are as all others.
		{[]string{"cn=al"}, []int{15}, []int{16}, []int{15, 16}},
		{[]string{"cn=gone", "dc=y", "b,dc=x", "cn=q", "ou=b", "cn=x,dc=xx", "ou=b+cn=a,ou=b,dc=x"}, nil, nil, nil},
		{append(noNames(), "ou=b,dc=x,", "dc= x"), nil, nil, nil},
	} {
		for _, name := range c.names {
			for scope, places := range [][]int{c.base, c.one, c.sub} {
				var want []api.Entry
				for _, i := range places {
					want = append(want, list[i])
				}
				if got := search.Scope(list, name, scope); !slices.EqualFunc(got, want, entry.Same) {
					t.Errorf("%.300q, %d: %q, not %q", name, scope, namesOf(got), namesOf(want))
				}
			}
			for _, scope := range []int{-1, 3, 4, math.MinInt, math.MaxInt} {
				if got := search.Scope(list, name, scope); len(got) > 0 {
					t.Errorf("%.300q, %d: %q", name, scope, namesOf(got))
				}
			}
		}
	}
}

// P14.1: the root is no entry, whatever is in the list.
func TestScopeRoot(t *testing.T) {
	for _, list := range [][]api.Entry{nil, {}, {{}}, {{}, {Name: "dc=x"}, {}}, {{Name: ""}, {Name: "dc=x"}, {Name: "cn=a,dc=x"}}} {
		below := slices.DeleteFunc(slices.Clone(list), func(e api.Entry) bool { return e.Name == "" })
		for scope, want := range [][]api.Entry{nil, below[:min(1, len(below))], below} {
			if got := search.Scope(list, "", scope); !slices.EqualFunc(got, want, entry.Same) {
				t.Errorf("%q, %d: %q", list, scope, got)
			}
		}
	}
}

// P14.1: it is asked of names alone, up to the longest ones.
func TestScopeLong(t *testing.T) {
	var list []api.Entry
	name := "dc=x"
	for range api.MaxRDNs {
		list = append(list, api.Entry{Name: name, Attrs: []api.Attr{attr("no", "type"), attr("cn", "")}})
		name = "cn=a," + name
	}
	for i, e := range list {
		for scope, want := range [][]api.Entry{{e}, list[min(i+1, len(list)):min(i+2, len(list))], list[i:]} {
			if got := search.Scope(list, strings.ToUpper(e.Name), scope); !slices.EqualFunc(got, want, entry.Same) {
				t.Errorf("%q, %d: %q", e.Name, scope, namesOf(got))
			}
		}
	}
	// It would be right under the last one, but is no name.
	list = append(list, api.Entry{Name: name})
	if got := search.Scope(list, list[len(list)-2].Name, api.Sub); len(got) != 1 {
		t.Errorf("%q", namesOf(got))
	}
}
