package local

import (
	"slices"
	"strconv"

	"verger/api"
	"verger/dn"
	"verger/part"
	"verger/policy"
	"verger/search"
	"verger/view"
)

// read is layer 11's right to read, and whole stands for an entry itself among
// its attributes there.
const (
	read  = 1
	whole = ""
)

// scheme begins the text of a server's number.
const scheme = "ldap://"

// Manage tells what a server answers to a request from what it holds as it
// lies there: the cuts below it are entries, and nothing is followed.
func Manage(c part.Config, rules []policy.Rule, server int, subject string, r search.Request) Result {
	if code := canAsk(c, server, r); code != api.Success {
		return Result{Code: code}
	}
	r.Deref = api.Never
	got := search.Run(laidOut(c.Servers[server].Contexts, rules, subject), r)
	return Result{Code: got.Code, Entries: got.Entries}
}

// laidOut tells what is seen of a server's contexts: their entries, and
// references to those Subs that it has not itself, of each name the first.
func laidOut(contexts []part.Context, rules []policy.Rule, subject string) []api.Entry {
	var list []api.Entry
	for _, context := range contexts {
		list = append(list, view.Of(context.Entries, rules, subject)...)
		for _, sub := range context.Subs {
			if isOwn(contexts, sub.Name) {
				continue
			}
			if e, ok := seen(reference(sub), rules, subject); ok {
				list = append(list, e)
			}
		}
	}
	return firstOfEach(list)
}

func isOwn(contexts []part.Context, name string) bool {
	return slices.ContainsFunc(contexts, func(context part.Context) bool { return context.Name == name })
}

// reference is the entry that stands for a Sub.
func reference(sub part.Cut) api.Entry {
	return api.Entry{Name: sub.Name, Attrs: []api.Attr{
		{Type: "objectClass", Values: []string{"referral"}},
		{Type: "ref", Values: []string{scheme + strconv.Itoa(sub.Server)}},
	}}
}

// seen tells what is seen of a reference, and whether any of it is. Layer 12
// sees nothing of it, since it hasn't what its name says.
func seen(e api.Entry, rules []policy.Rule, subject string) (api.Entry, bool) {
	mayRead := func(name, attr string) bool { return policy.Decide(rules, subject, read, name, attr) }
	for name := e.Name; name != root; name, _ = dn.Parent(name) {
		if !mayRead(name, whole) {
			return api.Entry{}, false
		}
	}
	e.Attrs = slices.DeleteFunc(e.Attrs, func(attr api.Attr) bool { return !mayRead(e.Name, attr.Type) })
	return e, true
}

// firstOfEach tells the first entry of each name.
func firstOfEach(list []api.Entry) []api.Entry {
	names := map[string]struct{}{}
	return slices.DeleteFunc(list, func(e api.Entry) bool {
		_, ok := names[e.Name]
		names[e.Name] = struct{}{}
		return ok
	})
}
