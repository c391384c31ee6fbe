package tests

import (
	"regexp"
	"slices"
	"strings"
	"testing"

	"loop.example/g00352/impl"
)

// A model of spaces that keeps nothing: what a prefix has is looked for in the events ahead, each time anew.

var splitForm = regexp.MustCompile(`^(?:([^:]+):)?([^:]+)$`)

func modelSplit(name string) impl.Qname {
	found := splitForm.FindStringSubmatch(name)
	if found == nil || !impl.NameRight(found[2]) || found[1] != "" && !impl.NameRight(found[1]) {
		return impl.Qname{Code: impl.ErrSyntax}
	}
	return impl.Qname{Prefix: found[1], Local: found[2]}
}

func wholeName(prefix string, local string) string {
	if prefix == "" {
		return local
	}
	return prefix + ":" + local
}

// declared: the prefix that a name declares.
func declared(name string) (string, bool) {
	if name == "xmlns" {
		return "", true
	}
	return strings.CutPrefix(name, "xmlns:")
}

// modelElement: how many events the element has with which a row begins; 0, if it begins with none.
func modelElement(l []impl.Event, around int) int {
	if len(l) == 0 || l[0].Kind != impl.EvStart || around >= 30 || len(l[0].Attrs) > 60 {
		return 0
	}
	for at := 1; at < len(l); {
		switch l[at].Kind {
		case impl.EvStart:
			size := modelElement(l[at:], around+1)
			if size == 0 {
				return 0
			}
			at += size
		case impl.EvEnd:
			if l[at].Name != l[0].Name {
				return 0
			}
			return at + 1
		case impl.EvText, impl.EvComment, impl.EvPi:
			at++
		default:
			return 0
		}
	}
	return 0
}

func isNoAside(e impl.Event) bool {
	return e.Kind != impl.EvComment && e.Kind != impl.EvPi
}

func modelRow(l []impl.Event) bool {
	from := slices.IndexFunc(l, isNoAside)
	if from < 0 {
		return false
	}
	size := modelElement(l[from:], 0)
	return size > 0 && !slices.ContainsFunc(l[from+size:], isNoAside)
}

// startOf: the number of the EvStart that is ended at a place.
func startOf(l []impl.Event, at int) int {
	for ended := 0; ; at-- {
		switch l[at].Kind {
		case impl.EvEnd:
			ended++
		case impl.EvStart:
			ended--
			if ended == 0 {
				return at
			}
		}
	}
}

// modelSpace: the Value that is declared of a prefix nearest around an event, or by it.
func modelSpace(l []impl.Event, at int, prefix string) (string, bool) {
	for ; at >= 0; at-- {
		switch l[at].Kind {
		case impl.EvEnd:
			at = startOf(l, at)
		case impl.EvStart:
			for _, a := range slices.Backward(l[at].Attrs) {
				if of, is := declared(a.Name); is && of == prefix {
					return a.Value, true
				}
			}
		}
	}
	switch prefix {
	case "xml":
		return xmlSpace, true
	case "":
		return "", true
	}
	return "", false
}

// wrongDeclaration, as the document has it, sentence by sentence.
func wrongDeclaration(prefix string, value string) bool {
	if prefix != "" && value == "" {
		return true
	}
	if prefix == "xml" && value != xmlSpace {
		return true
	}
	if prefix != "xml" && value == xmlSpace {
		return true
	}
	return prefix == "xmlns" || value == xmlnsSpace
}

func modelSyntax(e impl.Event) bool {
	if modelSplit(e.Name).Code != impl.OK || strings.HasPrefix(e.Name, "xmlns:") {
		return true
	}
	return slices.ContainsFunc(e.Attrs, func(a impl.Attr) bool {
		prefix, is := declared(a.Name)
		return modelSplit(a.Name).Code != impl.OK || is && wrongDeclaration(prefix, a.Value)
	})
}

func modelStart(l []impl.Event, at int) (impl.Node, int64) {
	e := l[at]
	if modelSyntax(e) {
		return impl.Node{}, impl.ErrSyntax
	}
	q := modelSplit(e.Name)
	space, found := modelSpace(l, at, q.Prefix)
	node := impl.Node{Kind: impl.EvStart, Name: named(q.Prefix, q.Local, space)}
	seen := map[string]int{}
	for _, a := range e.Attrs {
		if prefix, is := declared(a.Name); is {
			node.Decls = append(node.Decls, impl.Attr{Name: prefix, Value: a.Value})
			continue
		}
		q := modelSplit(a.Name)
		space, there := "", true
		if q.Prefix != "" {
			space, there = modelSpace(l, at, q.Prefix)
		}
		found = found && there
		// No name has a blank, so what is put together so can be taken apart in one way.
		seen[q.Local+" "+space]++
		node.Attrs = append(node.Attrs, valued(q.Prefix, q.Local, space, a.Value))
	}
	if !found {
		return impl.Node{}, impl.ErrNone
	}
	if len(seen) < len(node.Attrs) {
		return impl.Node{}, impl.ErrThere
	}
	return node, impl.OK
}

func modelSpaced(l []impl.Event) impl.NodesOut {
	if len(l) > 400 {
		return impl.NodesOut{Code: impl.ErrSize}
	}
	if !modelRow(l) {
		return impl.NodesOut{Code: impl.ErrForm}
	}
	var out []impl.Node
	for at, e := range l {
		node, code := impl.Node{Kind: e.Kind, Text: e.Text}, int64(impl.OK)
		switch e.Kind {
		case impl.EvStart:
			node, code = modelStart(l, at)
		case impl.EvEnd:
			node.Name = out[startOf(l, at)].Name
		case impl.EvPi:
			node.Name.Local = e.Name
			if strings.Contains(e.Name, ":") {
				code = impl.ErrSyntax
			}
		}
		if code != impl.OK {
			return impl.NodesOut{At: int64(at), Code: code}
		}
		out = append(out, node)
	}
	return impl.NodesOut{Nodes: out}
}

// checkNodesOfEvents, promise 7: a node each, and the parts of its names put together are them.
func checkNodesOfEvents(t *testing.T, l []impl.Event, got []impl.Node) {
	t.Helper()
	if len(got) != len(l) {
		t.Fatalf("%d nodes of %d events: %+v", len(got), len(l), l)
	}
	for i, n := range got {
		e := l[i]
		if n.Kind != e.Kind {
			t.Fatalf("node %d of %+v: got %+v", i, l, n)
		}
		if isNamed := e.Kind != impl.EvText && e.Kind != impl.EvComment; isNamed && wholeName(n.Name.Prefix, n.Name.Local) != e.Name {
			t.Fatalf("the name of node %d of %+v: got %+v", i, l, n)
		}
		if e.Kind != impl.EvStart {
			continue
		}
		var names []string
		for _, d := range n.Decls {
			names = append(names, strings.TrimSuffix("xmlns:"+d.Name, ":")+"="+d.Value)
		}
		for _, a := range n.Attrs {
			names = append(names, wholeName(a.Prefix, a.Local)+"="+a.Value)
		}
		var want []string
		for _, a := range e.Attrs {
			want = append(want, a.Name+"="+a.Value)
		}
		isOther := func(text string) int {
			name, _, _ := strings.Cut(text, "=")
			if _, is := declared(name); is {
				return 0
			}
			return 1
		}
		slices.SortStableFunc(want, func(a string, b string) int { return isOther(a) - isOther(b) })
		if !slices.Equal(names, want) {
			t.Fatalf("the attributes of node %d of %+v: got %+v", i, l, n)
		}
	}
}

func checkAgainstModel(t *testing.T, l []impl.Event) int64 {
	t.Helper()
	got, want := impl.Spaced(l), modelSpaced(l)
	if !sameNodes(got, want) {
		t.Fatalf("Spaced of %+v:\n got %+v\nwant %+v", l, got, want)
	}
	if got.Code == impl.OK {
		checkNodesOfEvents(t, l, got.Nodes)
	}
	return got.Code
}

// everyRow: each list of at most so many of these.
func everyRow[T any](from []T, most int, visit func([]T)) {
	var goOnFrom func(ahead []T)
	goOnFrom = func(ahead []T) {
		visit(ahead)
		if len(ahead) == most {
			return
		}
		for _, one := range from {
			goOnFrom(append(slices.Clip(ahead), one))
		}
	}
	goOnFrom(nil)
}

// checkMet: every one of the codes must have been told.
func checkMet(t *testing.T, met map[int64]int, codes ...int64) {
	t.Helper()
	for _, code := range codes {
		if met[code] == 0 {
			t.Errorf("code %d is never told: %v", code, met)
		}
	}
}

func TestEveryRow(t *testing.T) {
	t.Parallel()
	met := map[int64]int{}
	everyRow(events(start("a"), start("p:a", "xmlns:p", "u"), start("p:a"), start("b", "xmlns", "v"), end("a"), end("p:a"), end("b"), words("x"), remark("y"), order("o", ""), order("o:o", ""), impl.Event{Name: "a"}), 5, func(l []impl.Event) {
		met[checkAgainstModel(t, l)]++
	})
	checkMet(t, met, impl.OK, impl.ErrForm, impl.ErrSyntax, impl.ErrNone)
}

// everyTree: elements in and beside each other; each step begins one, or ends the last (an empty name).
func everyTree(roots []impl.Event, steps []impl.Event, most int, visit func([]impl.Event)) {
	for _, root := range roots {
		everyRow(append(events(start("")), steps...), most, func(l []impl.Event) {
			row, open := events(root), []string{root.Name}
			for _, e := range l {
				last := len(open) - 1
				if e.Name != "" {
					row, open = append(row, e), append(open, e.Name)
				} else if last > 0 {
					row, open = append(row, end(open[last])), open[:last]
				}
			}
			for _, name := range slices.Backward(open) {
				row = append(row, end(name))
			}
			visit(row)
		})
	}
}

func TestEveryTree(t *testing.T) {
	t.Parallel()
	met := map[int64]int{}
	roots := events(start("r"), start("r", "xmlns:p", "w"), start("r", "xmlns", "w", "xmlns:p", "u"))
	steps := events(start("a"), start("p:a"), start("p:a", "xmlns:p", "u"), start("p:a", "xmlns:p", "v"), start("a", "xmlns", "u"), start("a", "xmlns", ""), start("a", "xmlns:q", "u", "p:k", "", "q:k", ""), start("a", "xmlns:p", ""))
	everyTree(roots, steps, 5, func(row []impl.Event) {
		met[checkAgainstModel(t, row)]++
	})
	checkMet(t, met, impl.OK, impl.ErrSyntax, impl.ErrNone, impl.ErrThere)
}

func TestEveryElement(t *testing.T) {
	met := map[int64]int{}
	attrs := start("", "k", "1", "p:k", "2", "q:k", "3", "q:l", "", "xml:k", "4", "xmlns", "", "xmlns", "u", "xmlns", xmlnsSpace, "xmlns:p", "u", "xmlns:q", "u", "xmlns:q", "v", "xmlns:p", "", "xmlns:xml", xmlSpace, "xmlns:xml", "u", "xmlns:q", xmlSpace, "xmlns:xmlns", "u", "a:b:c", "", "1", "").Attrs
	for _, name := range []string{"a", "p:a", "q:a", "xml:a", "xmlns:a", "xmlns", ":a"} {
		everyRow(attrs, 3, func(l []impl.Attr) {
			e := impl.Event{Kind: impl.EvStart, Name: name, Attrs: l}
			met[checkAgainstModel(t, events(e, end(name)))]++
			met[checkAgainstModel(t, events(start("b", "xmlns:p", "u", "xmlns", "w"), e, start("q:c"), end("q:c"), end(name), end("b")))]++
		})
	}
	checkMet(t, met, impl.OK, impl.ErrSyntax, impl.ErrNone, impl.ErrThere)
}
