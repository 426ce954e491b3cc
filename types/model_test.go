package types

import (
	"regexp"
	"slices"
	"strings"
	"testing"

	"runnel/api"
	"runnel/parse"
	"runnel/tree"
)

func leaf(kind int, text string, n int) api.Tree {
	return tree.Over(api.Node{Kind: kind, Text: text, N: n}, nil)
}

func over(kind int, text string, kids ...api.Tree) api.Tree {
	return tree.Over(api.Node{Kind: kind, Text: text}, kids)
}

func copied(t api.Tree) api.Tree {
	nodes := slices.Clone(t.Nodes)
	for i := range nodes {
		nodes[i].Kids = slices.Clone(nodes[i].Kids)
	}
	return api.Tree{Nodes: nodes, Root: t.Root}
}

// equal holds all of two trees against each other; only nil and empty are the same.
func equal(a, b api.Tree) bool {
	return a.Root == b.Root && slices.EqualFunc(a.Nodes, b.Nodes, func(x, y api.Node) bool {
		return x.Kind == y.Kind && x.N == y.N && x.At == y.At && x.Text == y.Text && slices.Equal(x.Kids, y.Kids)
	})
}

func parsed(t *testing.T, text string) api.Tree {
	t.Helper()
	x, at, e := parse.Program(text)
	if e != api.OK {
		t.Fatalf("%q: %d, %v", text, at, e)
	}
	return x
}

// marked is the tree of a text without its @, and the place of the node of a kind that begins there.
func marked(t *testing.T, text string, kind int) (api.Tree, int) {
	t.Helper()
	at := strings.Index(text, "@")
	if strings.Count(text, "@") != 1 {
		t.Fatalf("%q has not one mark", text)
	}
	x := parsed(t, text[:at]+text[at+1:])
	place := slices.IndexFunc(x.Nodes, func(n api.Node) bool { return n.Kind == kind && n.At == at })
	if place < 0 {
		t.Fatalf("%q has no node of kind %d at its mark", text, kind)
	}
	return x, place
}

// The model goes through all nodes for each question. A type is a letter to it: none, int, bool, arr, fun.
const letters = ".ibaf"

type model struct {
	api.Tree
	owners []int // none if the tree is not valid
}

// newModel goes up from each node until there is a Proc.
func newModel(t api.Tree) model {
	if !tree.Right(t) {
		return model{Tree: t}
	}
	parents := tree.Parents(t)
	owners := make([]int, len(parents))
	for place := range owners {
		owner := place
		for owner >= 0 && t.Nodes[owner].Kind != api.Proc {
			owner = parents[owner]
		}
		owners[place] = owner
	}
	return model{t, owners}
}

func (m model) owner(place int) int {
	if place < 0 || place >= len(m.owners) {
		return -1
	}
	return m.owners[place]
}

// first is the first node of one of these kinds that has a Text and an owner; a Proc is its own.
func (m model) first(text string, owner int, kinds ...int) int {
	for place := range m.owners {
		if n := m.Nodes[place]; n.Text == text && slices.Contains(kinds, n.Kind) && m.owner(place) == owner {
			return place
		}
	}
	return -1
}

func (m model) lookup(place int, name string) int {
	owner := m.owner(place)
	if owner < 0 {
		return -1
	}
	if d := m.first(name, owner, api.Param, api.Local); d >= 0 {
		return d
	}
	return m.first(name, -1, api.Global)
}

func (m model) procedure(name string) int {
	for place := range m.owners {
		if n := m.Nodes[place]; n.Kind == api.Proc && n.Text == name {
			return place
		}
	}
	return -1
}

// profile is what a Proc takes and what it answers: "ib:." takes an int and a bool.
func (m model) profile(proc int) string {
	out := ""
	for _, kid := range m.Nodes[proc].Kids {
		if m.Nodes[kid].Kind == api.Param {
			out += letter(m.Nodes[kid].N)
		}
	}
	return out + ":" + letter(m.Nodes[proc].N)
}

func letter(n int) string { return letters[n : n+1] }

func (m model) plain(place int) bool {
	return place >= 0 && place < len(m.owners) && m.Nodes[place].Kind == api.Proc && m.profile(place) == "i:i"
}

// typed is the letter of an expression, and "." of all else.
func (m model) typed(place int) string {
	if place < 0 || place >= len(m.owners) {
		return "."
	}
	switch n := m.Nodes[place]; {
	case n.Kind == api.Var:
		return m.named(place, n.Text)
	case n.Kind >= api.Unary && strings.Contains("+-*/%", n.Text):
		return "i"
	default:
		return map[int]string{api.Const: "i", api.Truth: "b", api.Index: "i", api.Length: "i", api.Addr: "f", api.Unary: "b", api.Binary: "b"}[n.Kind] + "."
	}
}

// named is the letter of what a name denotes at a node.
func (m model) named(place int, name string) string {
	if d := m.lookup(place, name); d >= 0 {
		return letter(m.Nodes[d].N)
	}
	return "."
}

// kids are the letters of the expressions right below a node.
func (m model) kids(place int) string {
	out := ""
	for _, kid := range m.Nodes[place].Kids {
		if m.Nodes[kid].Kind >= api.Const {
			out += m.typed(kid)[:1]
		}
	}
	return out
}

// rights are the last column of the table: how a node is written that is right. That is its Text if it is a sign, or else the letter of the variable that its Text denotes, or for a Return of the result, then a colon, and the letters of the expressions below.
var rights = map[int]*regexp.Regexp{
	api.Index:  regexp.MustCompile(`^a:i$`),
	api.Length: regexp.MustCompile(`^a:$`),
	api.Store:  regexp.MustCompile(`^a:ii$`),
	api.New:    regexp.MustCompile(`^a:i$`),
	api.In:     regexp.MustCompile(`^i:$`),
	api.Try:    regexp.MustCompile(`^i:$`),
	api.Out:    regexp.MustCompile(`^\.:i$`),
	api.Throw:  regexp.MustCompile(`^\.:i$`),
	api.If:     regexp.MustCompile(`^\.:b$`),
	api.While:  regexp.MustCompile(`^\.:b$`),
	api.Assign: regexp.MustCompile(`^(i:i|b:b|a:a|f:f)$`),
	api.Return: regexp.MustCompile(`^(\.:|i:i|b:b|a:a|f:f)$`),
	api.Unary:  regexp.MustCompile(`^(-:i|!:b)$`),
	api.Binary: regexp.MustCompile(`^([-+*/%<>]:ii|[<>]=:ii|[=!]=:(ii|bb)|(&&|\|\|):bb)$`),
}

func (m model) mistyped(place int) bool {
	n := m.Nodes[place]
	text := m.named(place, n.Text)
	switch n.Kind {
	case api.Unary, api.Binary:
		text = n.Text
	case api.Return:
		text = letter(m.Nodes[m.owner(place)].N)
	case api.Addr:
		return !m.plain(m.procedure(n.Text))
	case api.Call:
		return m.miscalled(place)
	}
	right, ok := rights[n.Kind]
	return ok && !right.MatchString(text+":"+m.kids(place))
}

// miscalled holds what a Call hands in and what takes its answer against the profile of what it calls.
func (m model) miscalled(place int) bool {
	n := m.Nodes[place]
	callee := m.Nodes[n.Kids[0]].Text
	profile := "i:i"
	switch d := m.lookup(place, callee); {
	case d < 0:
		profile = m.profile(m.procedure(callee))
	case m.Nodes[d].N != api.Fun:
		return true
	}
	params, result, _ := strings.Cut(profile, ":")
	return m.kids(place) != params || n.Text != "" && (result == "." || m.named(place, n.Text) != result)
}

// unknown is the middle column of the table.
func (m model) unknown(place int) bool {
	n := m.Nodes[place]
	denotes := func(name string) bool { return m.lookup(place, name) >= 0 }
	switch n.Kind {
	case api.Addr:
		return m.procedure(n.Text) < 0
	case api.Call:
		callee := m.Nodes[n.Kids[0]].Text
		return !denotes(callee) && m.procedure(callee) < 0 || n.Text != "" && !denotes(n.Text)
	case api.Var, api.Index, api.Length, api.Assign, api.Store, api.New, api.In, api.Try:
		return !denotes(n.Text)
	}
	return false
}

// taken is the first column of the table.
func (m model) taken(place int) bool {
	for earlier := range m.owners {
		a, b := m.Nodes[earlier], m.Nodes[place]
		if a.Text != b.Text {
			continue
		}
		ahead, global, one := earlier < place, a.Kind == api.Global, m.owner(earlier) == m.owner(place)
		switch b.Kind {
		case api.Global:
			if ahead && global {
				return true
			}
		case api.Proc:
			if global || ahead && a.Kind == api.Proc {
				return true
			}
		case api.Param, api.Local:
			if ahead && one && (a.Kind == api.Param || a.Kind == api.Local) {
				return true
			}
		}
	}
	return false
}

// errors are all that a node has, in the order of the table.
func (m model) errors(place int) []api.Errno {
	var out []api.Errno
	if m.taken(place) {
		out = append(out, api.ErrThere)
	}
	unknown := m.unknown(place)
	if unknown {
		out = append(out, api.ErrName)
	}
	// What is called, or asked for its address, has a profile only if it is there.
	if kind := m.Nodes[place].Kind; unknown && (kind == api.Addr || kind == api.Call) {
		return out
	}
	if m.mistyped(place) {
		out = append(out, api.ErrType)
	}
	return out
}

func (m model) check() (int, api.Errno) {
	if m.owners == nil {
		return 0, api.ErrArg
	}
	for place := range m.owners {
		if e := m.errors(place); len(e) > 0 {
			return place, e[0]
		}
	}
	if proc := m.procedure("main"); proc < 0 || m.profile(proc) != ":." {
		return len(m.owners) - 1, api.ErrMain
	}
	return 0, api.OK
}

// channels takes the least name that is left, again and again.
func (m model) channels() []string {
	var out []string
	for {
		least, found := "", false
		for place := range m.owners {
			n := m.Nodes[place]
			if n.Kind == api.Chan && !slices.Contains(out, n.Text) && (!found || n.Text < least) {
				least, found = n.Text, true
			}
		}
		if !found {
			return out
		}
		out = append(out, least)
	}
}

// hold holds all that the calls say of a tree against the model, with these names and those of the tree.
func hold(t *testing.T, x api.Tree, names ...string) {
	t.Helper()
	m := newModel(x)
	place, e := Check(x)
	if wantPlace, want := m.check(); place != wantPlace || e != want {
		t.Fatalf("Check is %d, %v, not %d, %v, of %v", place, e, wantPlace, want, x)
	}
	names = append(names, "", "main")
	for _, n := range x.Nodes {
		names = append(names, n.Text)
	}
	slices.Sort(names)
	names = slices.Compact(names)
	for place := -2; place < len(x.Nodes)+2; place++ {
		asked := names
		if len(x.Nodes) > 40 && place >= 0 && place < len(x.Nodes) { // All of them at each node would take too long.
			asked = []string{x.Nodes[place].Text, names[place%len(names)]}
		}
		holdAt(t, m, place, asked)
	}
	for _, name := range names {
		if got, want := Procedure(x, name), m.procedure(name); got != want {
			t.Fatalf("Procedure %q is %d, not %d, of %v", name, got, want, x)
		}
	}
	if got, want := Main(x), m.procedure("main"); got != want {
		t.Fatalf("Main is %d, not %d, of %v", got, want, x)
	}
	if got, want := Channels(x), m.channels(); !slices.Equal(got, want) {
		t.Fatalf("Channels are %q, not %q, of %v", got, want, x)
	}
}

func holdAt(t *testing.T, m model, place int, names []string) {
	t.Helper()
	x := m.Tree
	if got, want := Owner(x, place), m.owner(place); got != want {
		t.Fatalf("Owner at %d is %d, not %d, of %v", place, got, want, x)
	}
	if got, want := Plain(x, place), m.plain(place); got != want {
		t.Fatalf("Plain at %d is %v, not %v, of %v", place, got, want, x)
	}
	if got, want := Type(x, place), strings.Index(letters, m.typed(place)[:1]); got != want {
		t.Fatalf("Type at %d is %d, not %d, of %v", place, got, want, x)
	}
	for _, name := range names {
		if got, want := Lookup(x, place, name), m.lookup(place, name); got != want {
			t.Fatalf("Lookup of %q at %d is %d, not %d, of %v", name, place, got, want, x)
		}
	}
}
