package policy_test

import (
	"math/rand"
	"slices"
	"strings"
	"testing"

	"verger/policy"
)

// place is a name by its parts' numbers, the lowest first; nil is the root, or
// nobody known.
type place []int

// partTexts are the writings of each part, the normal one first. Some parts'
// texts have others' in them.
func partTexts(part int) []string {
	return [][]string{
		{"dc=x", "DC=X", `dc=\58`},
		{"cn=a", "CN=A", `cn=\ a\ `},
		{"cn=a+ou=b", "ou=B+cn=A", `OU=\62+CN=a`},
		{`cn=a\,dc=x`, `CN=A\2cdc=X`, `cn=\61\,DC\3Dx`},
		{"ou=b", "OU=b", `ou=b\ \ `},
	}[part]
}

func randomPlace(r *rand.Rand) place {
	// Mostly under the one part, so that names meet.
	var p place
	for range r.Intn(3) {
		p = append(p, r.Intn(5))
	}
	if r.Intn(4) > 0 {
		p = append(p, 0)
	}
	return p
}

// normal is a name's normal text.
func (p place) normal() string {
	var parts []string
	for _, part := range p {
		parts = append(parts, partTexts(part)[0])
	}
	return strings.Join(parts, ",")
}

// written is a name's text, as it may be written.
func (p place) written(r *rand.Rand) string {
	var parts []string
	for _, part := range p {
		parts = append(parts, partTexts(part)[r.Intn(3)])
	}
	return strings.Join(parts, ",")
}

func (p place) under(other place) bool {
	for len(p) > len(other) {
		p = p[1:]
	}
	return slices.Equal(p, other)
}

// ruling is a rule by what it is made of. Its who is *, -, = or @, its attr a
// number of modelAttrs.
type ruling struct {
	who           string
	whose, target place
	attr, rights  int
	allow         bool
}

func modelAttrs() []string { return []string{"", "cn", "mail", "objectClass"} }

func randomRuling(r *rand.Rand) ruling {
	m := ruling{who: string("*-=@"[r.Intn(4)]), whose: randomPlace(r), target: randomPlace(r), rights: 1 + r.Intn(63), allow: r.Intn(2) == 0}
	if r.Intn(2) == 0 {
		m.attr = 1 + r.Intn(3)
	}
	return m
}

func randomRulings(r *rand.Rand) []ruling {
	var list []ruling
	for range r.Intn(14) {
		list = append(list, randomRuling(r))
	}
	return list
}

func (m ruling) rule() policy.Rule {
	rule := policy.Rule{Who: m.who, Target: m.target.normal(), Attr: modelAttrs()[m.attr], Rights: m.rights, Allow: m.allow}
	if m.who == "@" {
		rule.Who += m.whose.normal()
	}
	return rule
}

func rulesOf(list []ruling) []policy.Rule {
	var rules []policy.Rule
	for _, m := range list {
		rules = append(rules, m.rule())
	}
	return rules
}

// decided tells what the rulings say, by the chapter's words.
func decided(list []ruling, subject place, bit int, name place, attr int) bool {
	for _, m := range list {
		whose := map[string]int{"*": 1}
		if len(subject) == 0 {
			whose["-"] = 1
		} else {
			if slices.Equal(subject, name) {
				whose["="] = 1
			}
			if subject.under(m.whose) {
				whose["@"] = 1
			}
		}
		if whose[m.who] == 1 && m.rights>>bit%2 == 1 && name.under(m.target) && (m.attr == 0 || m.attr == attr) {
			return m.allow
		}
	}
	return false
}

// P11.1: many rules and questions, against a plain model.
func TestDecideMany(t *testing.T) {
	r := rand.New(rand.NewSource(11))
	yes, total := 0, 20000
	for range total {
		list := randomRulings(r)
		subject, name, bit, attr := randomPlace(r), randomPlace(r), r.Intn(6), r.Intn(4)
		if r.Intn(3) == 0 {
			subject = name
		}
		asked := modelAttrs()[attr]
		if r.Intn(2) == 0 {
			asked = strings.ToUpper(asked)
		}
		want := decided(list, subject, bit, name, attr)
		if want {
			yes++
		}
		holdDecide(t, rulesOf(list), subject.written(r), 1<<bit, name.written(r), asked, want)
	}
	if yes < total/10 {
		t.Errorf("just %d of %d allowed", yes, total)
	}
}

// P11.2, P11.3: many rules restricted, against a plain model; of names under the
// context it is decided alike by them.
func TestRestrictMany(t *testing.T) {
	r := rand.New(rand.NewSource(113))
	cut, yes, total := 0, 0, 10000
	for range total {
		list := randomRulings(r)
		context := randomPlace(r)
		var want []policy.Rule
		for _, m := range list {
			if m.target.under(context) || context.under(m.target) {
				want = append(want, m.rule())
			}
		}
		if len(want) < len(list) {
			cut++
		}
		holdRestrict(t, rulesOf(list), context.written(r), want...)
		restricted := policy.Restrict(rulesOf(list), context.written(r))
		for range 3 {
			subject, bit, attr := randomPlace(r), r.Intn(6), r.Intn(4)
			name := append(randomPlace(r), context...)
			if r.Intn(3) == 0 {
				subject = name
			}
			want := decided(list, subject, bit, name, attr)
			if want {
				yes++
			}
			holdDecide(t, rulesOf(list), subject.written(r), 1<<bit, name.written(r), modelAttrs()[attr], want)
			holdDecide(t, restricted, subject.written(r), 1<<bit, name.written(r), modelAttrs()[attr], want)
		}
	}
	if cut < total/2 || yes < total/4 {
		t.Errorf("just %d of %d were cut, %d allowed", cut, total, yes)
	}
}
