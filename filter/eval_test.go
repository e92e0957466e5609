package filter_test

import (
	"fmt"
	"math/rand"
	"slices"
	"strings"
	"testing"

	"verger/api"
	"verger/dn"
	"verger/filter"
	"verger/rule"
)

// What Eval answers.
const (
	isTrue      = 1
	isFalse     = 0
	isUndefined = -1
)

// attr makes an attribute.
func attr(name string, values ...string) api.Attr {
	return api.Attr{Type: name, Values: values}
}

// holdEval holds Eval of a filter's text.
func holdEval(t *testing.T, text string, want int, attrs ...api.Attr) {
	t.Helper()
	f, err := filter.Parse(text)
	if err != api.OK {
		t.Fatalf("Parse(%q): %v", text, err)
	}
	if got := filter.Eval(f, attrs); got != want {
		t.Errorf("Eval(%q) over %q: %d, not %d", text, attrs, got, want)
	}
}

// P7.2: the chapter's examples.
func TestEvalExamples(t *testing.T) {
	holdEval(t, "(&(cn=a*)(!(sn=x)))", isUndefined, attr("cn", "Ann"))
	holdEval(t, "(&)", isTrue)
	holdEval(t, "(cn=*)", isTrue, attr("cn", "Ann"))
}

// P7.2: what and, or and not make of all three, up to four of them in a row.
func TestTruth(t *testing.T) {
	leaves := map[int]filter.Filter{isTrue: present("cn"), isFalse: present("ou"), isUndefined: present("sn")}
	attrs := []api.Attr{attr("cn", "a"), attr("sn", "a")}
	var see func(truths []int)
	see = func(truths []int) {
		var parts []filter.Filter
		for _, truth := range truths {
			parts = append(parts, leaves[truth])
		}
		both, one := isTrue, isFalse
		switch {
		case slices.Contains(truths, isFalse):
			both = isFalse
		case slices.Contains(truths, isUndefined):
			both = isUndefined
		}
		switch {
		case slices.Contains(truths, isTrue):
			one = isTrue
		case slices.Contains(truths, isUndefined):
			one = isUndefined
		}
		opposite := map[int]int{isTrue: isFalse, isFalse: isTrue, isUndefined: isUndefined}
		for i, c := range []struct {
			f    filter.Filter
			want int
		}{
			{and(parts...), both}, {or(parts...), one}, {not(and(parts...)), opposite[both]}, {not(or(parts...)), opposite[one]},
			{not(not(and(parts...))), both}, {and(or(parts...)), one}, {or(and(parts...)), both},
		} {
			if got := filter.Eval(c.f, attrs); got != c.want {
				t.Errorf("%d of %v: %d, not %d", i, truths, got, c.want)
			}
		}
		if len(truths) == 4 {
			return
		}
		for truth := range leaves {
			see(append(slices.Clone(truths), truth))
		}
	}
	see(nil)
}

// P7.2: all are UNDEFINED, if the Attr is no type, whatever stands there.
func TestNoType(t *testing.T) {
	for _, text := range []string{"(sn=*)", "(sn=a)", "(sn>=a)", "(sn<=a)", "(sn~=a)", "(sn=a*)", "(c=a)", "(cnn=a)", "(cn-=*)", "(objectClas=*)"} {
		holdEval(t, text, isUndefined)
		holdEval(t, text, isUndefined, attr("sn", "a"), attr("cn", "a"), attr("", "a"), attr("objectClass", "a"))
	}
	// A type that there is has nothing of what isn't one.
	holdEval(t, "(cn=a)", isFalse, attr("", "a"), attr("sn", "a"), attr("cn ", "a"), attr("c", "a"))
}

// P7.2: present asks for a value, with or without a normal form.
func TestPresent(t *testing.T) {
	for _, name := range []string{"objectClass", "cn", "ou", "o", "dc", "uid", "description", "mail", "userPassword", "ref", "serialNumber", "position", "aliasedObjectName", "member"} {
		text := "(" + name + "=*)"
		holdEval(t, text, isFalse)
		holdEval(t, text, isFalse, attr(name))
		holdEval(t, text, isFalse, attr("sn", "a"), attr(name, []string{}...))
		for _, value := range []string{"a", "", "\x00", " ", "=", strings.Repeat("a", api.MaxValue+1)} {
			holdEval(t, text, isTrue, attr(name, value))
			holdEval(t, text, isTrue, attr(strings.ToUpper(name)), attr("sn", "a"), attr(strings.ToLower(name), value))
			holdEval(t, strings.ToUpper(text), isTrue, attr(name, value))
		}
	}
	holdEval(t, "(cn=*)", isFalse, attr("ou", "a"))
	holdEval(t, "(cn=*)", isFalse, attr("\u212an", "a"))
}

// P7.2: equal, of each syntax.
func TestEqual(t *testing.T) {
	cn := attr("cn", "Ann  LEE", "b")
	holdEval(t, "(cn=ann lee)", isTrue, cn)
	holdEval(t, "(CN=  ANN   Lee )", isTrue, cn)
	holdEval(t, "(cn=B)", isTrue, cn)
	holdEval(t, "(cn=annlee)", isFalse, cn)
	holdEval(t, "(cn=ann)", isFalse, cn)
	holdEval(t, "(ou=b)", isFalse, cn)
	holdEval(t, "(cn= )", isUndefined, cn)
	holdEval(t, `(cn=\00)`, isUndefined, attr("cn", "\x00"))
	holdEval(t, `(cn=\c3\89)`, isFalse, attr("cn", "é"))
	holdEval(t, "(userPassword=A b)", isTrue, attr("userpassword", "A b"))
	holdEval(t, "(userPassword=a b)", isFalse, attr("userPassword", "A b"))
	holdEval(t, `(ref=\00)`, isTrue, attr("ref", "\x00"))
	holdEval(t, "(serialNumber=7)", isTrue, attr("serialNumber", "-7", "7"))
	holdEval(t, "(serialNumber=-7)", isFalse, attr("serialNumber", "7", "07"))
	holdEval(t, "(serialNumber=07)", isUndefined, attr("serialNumber", "7", "07"))
	holdEval(t, "(serialNumber=a)", isUndefined)
	holdEval(t, "(position=3-i)", isTrue, attr("position", "i", "3-i"))
	holdEval(t, "(position=3-1i)", isUndefined, attr("position", "3-i", "3-1i"))
	holdEval(t, "(position=5)", isFalse, attr("position", "3+4i"))
	holdEval(t, "(member=CN=A,dc=x)", isTrue, attr("member", "cn=b", `cn=\61,DC=X`))
	holdEval(t, "(member=cn=a)", isFalse, attr("member", "cn=a,dc=x"))
	holdEval(t, "(member=a)", isUndefined, attr("member", "a"))
	holdEval(t, "(aliasedObjectName=ou=B+cn=a)", isTrue, attr("aliasedObjectName", "CN=A+OU=b"))
	// The normal text of such a name has more than MaxValue bytes.
	long := "CN=" + strings.Repeat("\xff", 100)
	text, _ := filter.Print(equal("member", "cn="+strings.Repeat("\xff", 100)))
	holdEval(t, text, isTrue, attr("member", long))
	holdEval(t, text, isFalse, attr("member", long+"\xff"))
	// Of so many parts it is no name.
	holdEval(t, "(member="+strings.Repeat("o=a,", 20)+"o=a)", isUndefined, attr("member", "o=a"))
}

// P7.2: near, of each syntax.
func TestNear(t *testing.T) {
	holdEval(t, "(cn~=annlee)", isTrue, attr("cn", "Ann  LEE"))
	holdEval(t, "(cn~= a N n l E e)", isTrue, attr("cn", "Ann  LEE"))
	holdEval(t, "(cn~=ann)", isFalse, attr("cn", "Ann  LEE"))
	holdEval(t, "(cn~= )", isUndefined, attr("cn", "a"))
	holdEval(t, "(cn~=a)", isFalse, attr("cn", " ", "\x00", ""))
	holdEval(t, "(userPassword~=a b)", isTrue, attr("userPassword", "a b"))
	holdEval(t, "(userPassword~=ab)", isFalse, attr("userPassword", "a b"))
	holdEval(t, "(serialNumber~=7)", isTrue, attr("serialNumber", "7"))
	holdEval(t, "(serialNumber~=-7)", isFalse, attr("serialNumber", "7"))
	holdEval(t, "(serialNumber~=+7)", isUndefined, attr("serialNumber", "7"))
	holdEval(t, "(position~=5)", isTrue, attr("position", "1", "3+4i"))
	holdEval(t, "(position~=-5i)", isTrue, attr("position", "4-3i"))
	holdEval(t, "(position~=5)", isFalse, attr("position", "3+3i", "x"))
	holdEval(t, "(position~=x)", isUndefined, attr("position", "x"))
	holdEval(t, "(member~=CN=A  b,dc=x)", isTrue, attr("member", "cn=a b,DC=X"))
	holdEval(t, "(member~=cn=ab,dc=x)", isFalse, attr("member", "cn=a b,dc=x"))
	holdEval(t, "(member~=a)", isUndefined, attr("member", "a"))
}

// P7.2: at least and at most, of each syntax.
func TestOrders(t *testing.T) {
	for _, c := range []struct {
		name, low, high string
	}{
		{"cn", "A b", "b"}, {"cn", "a", "AB"}, {"cn", "10", "9"}, {"cn", "a", "\xff"}, {"mail", "  z", "zz"},
		{"serialNumber", "9", "10"}, {"serialNumber", "-10", "-9"}, {"serialNumber", "-1", "0"},
		{"position", "i", "3"}, {"position", "3", "3+i"}, {"position", "-2", "-2i"}, {"position", "-5", "3+4i"},
	} {
		for _, o := range []struct {
			f    filter.Filter
			has  string
			want int
		}{
			{atLeast(c.name, c.low), c.low, isTrue}, {atLeast(c.name, c.low), c.high, isTrue}, {atLeast(c.name, c.high), c.low, isFalse},
			{atMost(c.name, c.low), c.low, isTrue}, {atMost(c.name, c.high), c.low, isTrue}, {atMost(c.name, c.low), c.high, isFalse},
		} {
			if got := filter.Eval(o.f, []api.Attr{attr("dc", "x"), attr(c.name, "\x00", o.has)}); got != o.want {
				t.Errorf("%s over %q: %d, not %d", show(o.f), o.has, got, o.want)
			}
			if got := filter.Eval(o.f, []api.Attr{attr("dc", o.has), attr(c.name)}); got != isFalse {
				t.Errorf("%s over nothing: %d", show(o.f), got)
			}
		}
	}
	for _, sign := range []string{">=", "<="} {
		holdEval(t, "(cn"+sign+" )", isUndefined, attr("cn", "a", " "))
		holdEval(t, "(serialNumber"+sign+"07)", isUndefined, attr("serialNumber", "7", "07"))
		holdEval(t, "(position"+sign+"1i)", isUndefined, attr("position", "i"))
		holdEval(t, "(serialNumber"+sign+"7)", isFalse, attr("serialNumber", "a", "", "07"))
		for _, name := range []string{"userPassword", "REF"} {
			holdEval(t, "("+name+sign+"a)", isUndefined, attr(name, "a", "b", "A"))
		}
		for _, name := range []string{"member", "ALIASEDobjectNAME"} {
			holdEval(t, "("+name+sign+"cn=a)", isUndefined, attr(name, "cn=a", "cn=b"))
			holdEval(t, "("+name+sign+"a)", isUndefined, attr(name, "a"))
		}
	}
}

// P7.2: substrings of values' normal forms.
func TestSubstrings(t *testing.T) {
	for _, c := range []struct {
		text, value string
		want        int
	}{
		{"(cn=a*)", "Ann", isTrue}, {"(cn=A*)", "ann", isTrue}, {"(cn=*NN)", "Ann", isTrue}, {"(cn=*N*)", "Ann", isTrue}, {"(cn=n*)", "Ann", isFalse}, {"(cn=*a)", "Ann", isFalse}, {"(cn=*b*)", "Ann", isFalse},
		{"(cn=ann*)", "Ann", isTrue}, {"(cn=*ann)", "Ann", isTrue}, {"(cn=*ann*)", "Ann", isTrue}, {"(cn=annn*)", "Ann", isFalse}, {"(cn=*annn*)", "Ann", isFalse},
		// None may lie over another.
		{"(cn=an*nn)", "Ann", isFalse}, {"(cn=an*n)", "Ann", isTrue}, {"(cn=a*a)", "a", isFalse}, {"(cn=a*a)", "aa", isTrue}, {"(cn=a*a*a)", "aa", isFalse}, {"(cn=a*a*a)", "aaa", isTrue},
		{"(cn=*a*a*)", "a", isFalse}, {"(cn=*a*a*)", "aba", isTrue}, {"(cn=*ab*b*)", "ab", isFalse}, {"(cn=*ab*b*)", "abb", isTrue}, {"(cn=*aba*aba*)", "ababa", isFalse}, {"(cn=*aba*aba*)", "abaaba", isTrue},
		{"(cn=ab*bc)", "abc", isFalse}, {"(cn=*ab*bc)", "abc", isFalse}, {"(cn=ab*bc*)", "abc", isFalse}, {"(cn=*b*b)", "ab", isFalse}, {"(cn=*b*b)", "abab", isTrue},
		// They stand in order.
		{"(cn=*a*b*)", "ab", isTrue}, {"(cn=*b*a*)", "ab", isFalse}, {"(cn=c*a*b*d)", "cabd", isTrue}, {"(cn=c*b*a*d)", "cabd", isFalse}, {"(cn=a*b*c*d*e)", "a1b2c3d4e", isTrue}, {"(cn=a*b*d*c*e)", "a1b2c3d4e", isFalse},
		{"(cn=*ab*)", "aab", isTrue}, {"(cn=*aab*)", "aaab", isTrue}, {"(cn=*a*b)", "abab", isTrue},
		// A value is normal, its blanks too; a piece just has its letters made small.
		{"(cn=ann l*)", "  Ann   LEE ", isTrue}, {"(cn=ann  l*)", "Ann  LEE", isFalse}, {"(cn= ann*)", " ann", isFalse}, {"(cn=*ann )", "ann ", isFalse}, {"(cn=* lee)", "Ann  LEE", isTrue}, {"(cn=ann * lee)", "Ann  LEE", isFalse}, {"(cn=ann *lee)", "Ann  LEE", isTrue}, {"(cn=* *)", "Ann  LEE", isTrue}, {"(cn=* *)", " ann ", isFalse}, {"(cn=*  *)", "Ann  LEE", isFalse},
		{`(cn=*\c3\89*)`, "É", isTrue}, {`(cn=*\c3\89*)`, "é", isFalse}, {`(cn=*\89)`, "É", isTrue}, {`(cn=*\00*)`, "a", isFalse}, {`(cn=*\00*)`, "\x00", isFalse},
		{`(cn=\2a*\2a)`, "*(*", isTrue}, {"(cn=[*)", "{", isFalse}, {"(cn=@*)", "`", isFalse}, {"(cn=Z*)", "z", isTrue},
		{"(userPassword=a*)", "ab", isTrue}, {"(userPassword=A*)", "ab", isFalse}, {"(userPassword=a*)", "Ab", isFalse}, {"(userPassword=A*)", "Ab", isTrue}, {"(ref= *  * )", "   a   ", isTrue}, {`(ref=*\00*\ff)`, "\x00\xff", isTrue}, {`(ref=*\00*\ff)`, "\xff\x00", isFalse},
		// Of the other syntaxes nothing is told.
		{"(serialNumber=1*)", "10", isUndefined}, {"(serialNumber=a*)", "10", isUndefined}, {"(position=1*)", "1+i", isUndefined}, {"(member=cn=a*)", "cn=a", isUndefined}, {"(aliasedObjectName=*a)", "cn=a", isUndefined},
	} {
		name := c.text[1:strings.Index(c.text, "=")]
		holdEval(t, c.text, c.want, attr(name, c.value))
		holdEval(t, c.text, c.want, attr(name, "", "?", c.value, "!"))
		if c.want != isUndefined {
			holdEval(t, c.text, isFalse, attr(name), attr("dc", c.value))
		}
	}
}

// P7.2: values without a normal form are passed over.
func TestPassedOver(t *testing.T) {
	over := strings.Repeat("a", api.MaxValue+1)
	for _, text := range []string{"(cn=a)", "(cn=a*)", "(cn=*a*)", "(cn>=a)", "(cn<=z)", "(cn~=a)"} {
		holdEval(t, text, isFalse, attr("cn", "", " ", "a\x00", "\x00a", over))
		holdEval(t, text, isTrue, attr("cn", "", " ", "a\x00", over, "A", ""))
		holdEval(t, "(!"+text+")", isTrue, attr("cn", over))
	}
	holdEval(t, "(userPassword=a*)", isFalse, attr("userPassword", over, ""))
	holdEval(t, "(serialNumber>=-9)", isFalse, attr("serialNumber", "", "a", "-0", "01"))
	holdEval(t, "(position~=1)", isFalse, attr("position", "", "1i", "01", "+1"))
	holdEval(t, "(member=cn=a)", isFalse, attr("member", "", "a", "cn=a,", "cn=a, dc=x"))
	holdEval(t, "(member=cn=a)", isTrue, attr("member", "", "a", "cn=A"))
}

// P7.2: an attribute that stands twice has all values.
func TestTwice(t *testing.T) {
	attrs := []api.Attr{attr("cn", "a"), attr("ou", "b"), attr("CN"), attr("Cn", "c", "\x00"), attr("cN", "d")}
	for text, want := range map[string]int{
		"(cn=a)": isTrue, "(cn=c)": isTrue, "(cn=d)": isTrue, "(cn=b)": isFalse, "(&(cn=a)(cn=c)(cn=d)(ou=b))": isTrue, "(cn>=d)": isTrue, "(cn>=e)": isFalse,
		"(cN<=a)": isTrue, "(cn=*d)": isTrue, "(cn=*b)": isFalse, "(cn~=d)": isTrue, "(cn=*)": isTrue, "(ou=d)": isFalse, "(!(cn=d))": isFalse, "(!(cn=e))": isTrue,
	} {
		holdEval(t, text, want, attrs...)
	}
	holdEval(t, "(cn=*)", isTrue, attr("cn"), attr("cn", ""))
	holdEval(t, "(cn=*)", isFalse, attr("cn"), attr("CN"))
}

// P7.2: what isn't formed is UNDEFINED, however much of it could be told.
func TestEvalUnformed(t *testing.T) {
	attrs := []api.Attr{attr("cn", "a")}
	for i, f := range unformed() {
		for _, g := range []filter.Filter{f, not(f), and(present("ou"), f), or(present("cn"), f), and(f, present("ou")), or(f, present("cn"))} {
			if got := filter.Eval(g, attrs); got != isUndefined {
				t.Errorf("Eval of unformed %d: %d", i, got)
			}
		}
	}
	for _, f := range []filter.Filter{wide(api.MaxFilter), chain(api.MaxNest - 1), or(chain(api.MaxNest-1), and())} {
		if got := filter.Eval(f, attrs); got != isTrue {
			t.Errorf("Eval(%s): %d", show(f), got)
		}
	}
	if got := filter.Eval(chain(api.MaxNest), attrs); got != isFalse {
		t.Errorf("Eval of a chain: %d", got)
	}
}

// The model reckons with 0 for FALSE, 1 for UNDEFINED, 2 for TRUE, so that and
// is the least, or the greatest, and not what is missing up to 2.
func modelEval(f filter.Filter, attrs []api.Attr) int {
	switch f.Kind {
	case kindAnd, kindOr:
		truths := []int{2 - 2*f.Kind}
		for _, part := range f.Parts {
			truths = append(truths, modelEval(part, attrs))
		}
		if f.Kind == kindAnd {
			return slices.Min(truths)
		}
		return slices.Max(truths)
	case kindNot:
		return 2 - modelEval(f.Parts[0], attrs)
	}
	if !modelTold(f) {
		return 1
	}
	for _, a := range attrs {
		for _, value := range a.Values {
			if smallLetters(a.Type) == smallLetters(f.Attr) && modelFits(f, value) {
				return 2
			}
		}
	}
	return 0
}

// modelTold tells whether a filter is TRUE or FALSE of values.
func modelTold(f filter.Filter) bool {
	_, syntax := rule.Type(f.Attr)
	_, err := dn.Value(f.Attr, f.Value)
	switch f.Kind {
	case kindPresent:
		return syntax != 0
	case kindSubstrings:
		return syntax == 1 || syntax == 2
	case kindAtLeast, kindAtMost:
		return err == api.OK && syntax != 2 && syntax != 5
	}
	return err == api.OK
}

func modelFits(f filter.Filter, value string) bool {
	_, syntax := rule.Type(f.Attr)
	normal, err := dn.Value(f.Attr, value)
	wanted, _ := dn.Value(f.Attr, f.Value)
	order, _ := rule.Compare(f.Attr, normal, wanted)
	alike, _ := rule.Near(f.Attr, normal, wanted)
	switch {
	case f.Kind == kindPresent:
		return true
	case err != api.OK:
		return false
	case f.Kind == kindSubstrings:
		pieces := slices.Concat([]string{f.First}, f.Any, []string{f.Last})
		if syntax == 1 {
			for i := range pieces {
				pieces[i] = smallLetters(pieces[i])
			}
		}
		return modelFollow(normal, 0, pieces)
	case f.Kind == kindAtLeast:
		return order >= 0
	case f.Kind == kindAtMost:
		return order <= 0
	case f.Kind == kindNear && syntax != 5:
		return alike
	}
	return normal == wanted
}

// smallLetters puts small letters for great ones, and leaves other bytes.
func smallLetters(s string) string {
	for c := 'A'; c <= 'Z'; c++ {
		s = strings.ReplaceAll(s, string(c), string(c-'A'+'a'))
	}
	return s
}

// modelFollow tries every place for every piece: the first stands at the
// beginning, the last at the end.
func modelFollow(s string, number int, pieces []string) bool {
	if len(pieces) == 1 {
		return strings.HasSuffix(s, pieces[0])
	}
	for at := range len(s) + 1 {
		if number == 0 && at > 0 {
			return false
		}
		if strings.HasPrefix(s[at:], pieces[0]) && modelFollow(s[at+len(pieces[0]):], number+1, pieces[1:]) {
			return true
		}
	}
	return false
}

// P7.2: random filters over random attributes, against the model.
func TestManyEval(t *testing.T) {
	r := rand.New(rand.NewSource(72))
	answers := map[int]int{}
	for range 60000 {
		f := random(r, r.Intn(4))
		if !filter.Formed(f) {
			continue
		}
		var attrs []api.Attr
		for range r.Intn(6) {
			a := attr(someAttrs[r.Intn(len(someAttrs))])
			for range r.Intn(4) {
				a.Values = append(a.Values, someValues[r.Intn(len(someValues))])
			}
			attrs = append(attrs, a)
		}
		before := fmt.Sprint(f, attrs)
		want := []int{isFalse, isUndefined, isTrue}[modelEval(f, attrs)]
		if got := filter.Eval(f, attrs); got != want {
			t.Errorf("Eval(%s) over %q: %d, not %d", show(f), attrs, got, want)
		}
		// R3: what is handed in is left as it is.
		if after := fmt.Sprint(f, attrs); after != before {
			t.Errorf("%s changed to %s", before, after)
		}
		answers[want]++
	}
	for truth := isUndefined; truth <= isTrue; truth++ {
		if answers[truth] < 5000 {
			t.Errorf("just %d came to %d", answers[truth], truth)
		}
	}
}

// P7.2: many random pieces over short values, against the model.
func TestManyPieces(t *testing.T) {
	r := rand.New(rand.NewSource(720))
	met := 0
	for range 60000 {
		f := randomPieces(r, []string{"cn", "userPassword"}[r.Intn(2)])
		value := make([]byte, 1+r.Intn(8))
		for i := range value {
			value[i] = "aaabbA *\xff"[r.Intn(9)]
		}
		want := modelEval(f, []api.Attr{attr(f.Attr, string(value))}) / 2
		if got := filter.Eval(f, []api.Attr{attr(f.Attr, string(value))}); got != want {
			t.Errorf("Eval(%s) over %q: %d, not %d", show(f), value, got, want)
		}
		met += want
	}
	if met < 6000 {
		t.Errorf("just %d were TRUE", met)
	}
}

// R3: attributes that are handed in are left as they are, their spare room too.
func TestMemoryOfAttrs(t *testing.T) {
	values := []string{"ahead", "A  b", "", "behind"}
	attrs := []api.Attr{attr("cn", "ahead"), attr("CN", values[1:3]...), attr("cn", "behind")}
	f := or(substrings("cn", "X", "Y", "Z"), equal("cn", "A B"))
	if got := filter.Eval(f, attrs[1:2]); got != isTrue {
		t.Errorf("Eval: %d", got)
	}
	if !slices.Equal(values, []string{"ahead", "A  b", "", "behind"}) || attrs[0].Values[0] != "ahead" || attrs[1].Type != "CN" || len(attrs[1].Values) != 2 || attrs[2].Values[0] != "behind" {
		t.Errorf("changed to %q, %q", values, attrs)
	}
}
