package tests

import (
	"reflect"
	"slices"
	"strings"
	"testing"

	"loop.example/g00352/impl"
)

// A model of the canonical form that keeps nothing: what was written of a prefix is asked of the elements around, each
// time anew.

var (
	textSigns  = strings.NewReplacer("&", "&amp;", "<", "&lt;", ">", "&gt;", "\r", "&#xD;")
	valueSigns = strings.NewReplacer("&", "&amp;", "<", "&lt;", "\"", "&quot;", "\t", "&#x9;", "\n", "&#xA;", "\r", "&#xD;")
)

type canonModel struct {
	events   []impl.Event
	nodes    []impl.Node
	kept     []string
	comments bool
}

// around: the number of the EvStart nearest around an event; -1, if there is none.
func (m canonModel) around(at int) int {
	for at--; at >= 0; at-- {
		switch m.events[at].Kind {
		case impl.EvEnd:
			at = startOf(m.events, at)
		case impl.EvStart:
			return at
		}
	}
	return -1
}

// isVisible: is a prefix one of those that an element declares where it is not declared yet?
func (m canonModel) isVisible(at int, prefix string) bool {
	node := m.nodes[at]
	if node.Name.Prefix == prefix {
		return true
	}
	if prefix != "" && slices.ContainsFunc(node.Attrs, func(a impl.Named) bool { return a.Prefix == prefix }) {
		return true
	}
	space, found := modelSpace(m.events, at, prefix)
	return slices.Contains(m.kept, prefix) && found && (prefix != "" || space != "")
}

// isWritten: is a declaration of this prefix written at this EvStart?
func (m canonModel) isWritten(at int, prefix string) bool {
	space, _ := modelSpace(m.events, at, prefix)
	return prefix != "xml" && m.isVisible(at, prefix) && space != m.lastWritten(at, prefix)
}

func (m canonModel) lastWritten(at int, prefix string) string {
	outer := m.around(at)
	if outer < 0 {
		return ""
	}
	if m.isWritten(outer, prefix) {
		space, _ := modelSpace(m.events, outer, prefix)
		return space
	}
	return m.lastWritten(outer, prefix)
}

func (m canonModel) start(at int) string {
	node := m.nodes[at]
	prefixes := append([]string{node.Name.Prefix}, m.kept...)
	for _, a := range node.Attrs {
		if a.Prefix != "" {
			prefixes = append(prefixes, a.Prefix)
		}
	}
	slices.Sort(prefixes)
	out := "<" + m.events[at].Name
	for _, p := range slices.Compact(prefixes) {
		if m.isWritten(at, p) {
			space, _ := modelSpace(m.events, at, p)
			out += " " + strings.TrimSuffix("xmlns:"+p, ":") + "=\"" + valueSigns.Replace(space) + "\""
		}
	}
	// No character is less than what stands between a Space and a Local here.
	attrs := map[string]string{}
	var keys []string
	for _, a := range node.Attrs {
		key := a.Space + "\x00" + a.Local
		keys = append(keys, key)
		attrs[key] = " " + wholeName(a.Prefix, a.Local) + "=\"" + valueSigns.Replace(a.Value) + "\""
	}
	slices.Sort(keys)
	for _, key := range keys {
		out += attrs[key]
	}
	return out + ">"
}

// aside: ahead of the element and behind it there are no others around.
func (m canonModel) aside(at int, text string) string {
	switch {
	case m.around(at) >= 0:
		return text
	case isEnded(m.events[:at]):
		return "\n" + text
	}
	return text + "\n"
}

func (m canonModel) text() string {
	out := ""
	for at, e := range m.events {
		switch e.Kind {
		case impl.EvStart:
			out += m.start(at)
		case impl.EvEnd:
			out += "</" + e.Name + ">"
		case impl.EvText:
			out += textSigns.Replace(e.Text)
		case impl.EvPi:
			text := e.Name
			if e.Text != "" {
				text += " " + e.Text
			}
			out += m.aside(at, "<?"+text+"?>")
		case impl.EvComment:
			if m.comments {
				out += m.aside(at, "<!--"+e.Text+"-->")
			}
		}
	}
	return out
}

func modelCanon(text string, kept []string, comments bool) impl.CanonOut {
	if len(text) > 4000 || len(kept) > 400 {
		return impl.CanonOut{Code: impl.ErrSize}
	}
	for _, p := range kept {
		if q := modelSplit(p); p != "" && (q.Code != impl.OK || q.Local != p) {
			return impl.CanonOut{Code: impl.ErrForm}
		}
	}
	read := impl.Read(text, true)
	if read.Code != impl.OK {
		return impl.CanonOut{At: read.At, Code: read.Code}
	}
	spaced := modelSpaced(read.Events)
	if spaced.Code != impl.OK {
		return impl.CanonOut{At: spaced.At, Code: spaced.Code}
	}
	form := canonModel{read.Events, spaced.Nodes, kept, comments}.text()
	if len(form) > 4000 {
		return impl.CanonOut{Code: impl.ErrFull}
	}
	return impl.CanonOut{Text: form}
}

// meaning: the nodes of a document without what the canonical form may change: declarations, the order of Attrs, and
// comments, if they go.
func meaning(text string, comments bool) []impl.Node {
	var out []impl.Node
	for _, n := range impl.Spaced(impl.Read(text, true).Events).Nodes {
		last := len(out) - 1
		switch {
		case n.Kind == impl.EvComment && !comments:
			continue
		case n.Kind == impl.EvText && last >= 0 && out[last].Kind == impl.EvText:
			out[last].Text += n.Text
			continue
		}
		n.Decls = nil
		slices.SortFunc(n.Attrs, func(a impl.Named, b impl.Named) int {
			return strings.Compare(a.Space+"\x00"+a.Local, b.Space+"\x00"+b.Local)
		})
		out = append(out, n)
	}
	return plainNodes(out)
}

// checkForm, promise 9: a form is its own form, and it says what the document says.
func checkForm(t *testing.T, text string, kept []string, comments bool, form string) {
	t.Helper()
	if got := impl.Canon(form, kept, comments); got != (impl.CanonOut{Text: form}) {
		t.Fatalf("Canon of %q, %q, %v is %q, and of that %+v", text, kept, comments, form, got)
	}
	if got, want := meaning(form, true), meaning(text, comments); !reflect.DeepEqual(got, want) {
		t.Fatalf("Canon of %q, %q, %v is %q, which says\n%+v, not\n%+v", text, kept, comments, form, got, want)
	}
}

func checkCanonModel(t *testing.T, text string, kept []string, comments bool) int64 {
	t.Helper()
	got, want := impl.Canon(text, kept, comments), modelCanon(text, kept, comments)
	if got != want {
		t.Fatalf("Canon of %q, %q, %v:\n got %+v\nwant %+v", text, kept, comments, got, want)
	}
	if got.Code == impl.OK {
		checkForm(t, text, kept, comments, got.Text)
	}
	return got.Code
}

// rawText: a document of these events, as somebody may have written it.
func rawText(l []impl.Event) string {
	var out strings.Builder
	for _, e := range l {
		switch e.Kind {
		case impl.EvStart:
			out.WriteString("<" + e.Name)
			for _, a := range e.Attrs {
				out.WriteString("\n" + a.Name + " = '" + a.Value + "'")
			}
			out.WriteString(" >")
		case impl.EvEnd:
			out.WriteString("</" + e.Name + " >")
		}
	}
	return out.String()
}

var keptLists = [][]string{{""}, {"p"}, {"q", "", "p"}, {"xml", "z", "q", "q"}, {"p", "q"}, {"", "q"}, {"p", ""}}

func TestCanonOfEveryTree(t *testing.T) {
	t.Parallel()
	met := map[int64]int{}
	roots := events(start("r"), start("p:r", "xmlns:p", "w"), start("r", "xmlns", "w", "xmlns:p", "u", "xmlns:q", "x"))
	steps := events(start("a"), start("p:a"), start("p:a", "xmlns:p", "u"), start("p:a", "xmlns:p", "v", "xmlns", ""), start("a", "xmlns", "u"), start("a", "xmlns", ""), start("a", "xmlns:p", "v"), start("a", "xmlns:q", "v", "q:k", "", "k", ""), start("q:a", "xmlns", "v", "p:k", ""))
	trees := 0
	everyTree(roots, steps, 4, func(row []impl.Event) {
		text := rawText(row)
		met[checkCanonModel(t, text, nil, true)]++
		met[checkCanonModel(t, text, keptLists[trees%len(keptLists)], true)]++
		trees++
	})
	checkMet(t, met, impl.OK, impl.ErrNone)
}

func TestCanonOfEveryElement(t *testing.T) {
	t.Parallel()
	met := map[int64]int{}
	attrs := start("", "k", "1", "b", "", "p:k", "2", "q:k", "3", "p:b", "<", "xml:k", "4", "xmlns", "", "xmlns", "z", "xmlns:p", "u", "xmlns:p", "x", "xmlns:q", "w", "xmlns:q", "&#10;", "xmlns:xml", xmlSpace, "a:b:c", "").Attrs
	for _, name := range []string{"a", "p:a", "q:a", "xml:a"} {
		everyRow(attrs, 3, func(l []impl.Attr) {
			e := impl.Event{Kind: impl.EvStart, Name: name, Attrs: l}
			inner := rawText(events(e, start("q:c", "p:k", ""), end("q:c"), end(name)))
			met[checkCanonModel(t, rawText(events(e, end(name))), []string{"q", "p"}, false)]++
			met[checkCanonModel(t, "<b xmlns:p='u' xmlns='w' xmlns:q='v'>"+inner+inner+"</b>", nil, false)]++
			met[checkCanonModel(t, "<p:b xmlns:p='u' xmlns='w' xmlns:q='v'>"+inner+"</p:b>", []string{""}, false)]++
		})
	}
	checkMet(t, met, impl.OK, impl.ErrSyntax, impl.ErrNone, impl.ErrThere)
}

func TestCanonOfEveryRowOfMarks(t *testing.T) {
	t.Parallel()
	met := map[int64]int{}
	head := ent("e", "<b/>&#38;lt;") + ent("s", "\t\n'") + "<!ATTLIST b k ID ' 1\n2 ' p:l CDATA '&s;\"'>"
	for _, c := range []struct {
		ahead  string
		behind string
	}{
		{"", "<a xmlns:p='u'/>"}, {"<p:a xmlns:p='u'/>", ""}, {"<?o?>", "<a/><!--d-->"}, {"<a>", "</a>"}, {"<a xmlns:p='u'>", "</a><!--d-->"}, {headed(head, "<a xmlns:p='u'>"), "</a>"}, {headed(head, "<p:a xmlns:p='u'>"), "</p:a>"},
	} {
		everyText(c.ahead, []string{"<a>", "</a>", "<b k='&#9;'/>", "x>\"\n", " ", "&lt;", "&#13;", "&e;", "<![CDATA[]]>", "<![CDATA[<&]]>", "<!--c-->", "<!--\n-->", "<?p?>", "<?p  x ?>", "<?p:q?>"}, 3, func(text string) {
			met[checkCanonModel(t, text+c.behind, nil, true)]++
			met[checkCanonModel(t, text+c.behind, []string{"p"}, false)]++
		})
	}
	checkMet(t, met, impl.OK, impl.ErrSyntax, impl.ErrNone)
}

// Each document whole, and with one of its bytes taken away or made another.
func TestCanonOfChangedDocuments(t *testing.T) {
	t.Parallel()
	met := map[int64]int{}
	for _, l := range documents {
		text := textOf(l)
		for _, kept := range keptLists {
			met[checkCanonModel(t, text, kept, true)]++
			met[checkCanonModel(t, text, kept, false)]++
		}
		for i := range len(text) {
			met[checkCanonModel(t, text[:i]+text[i+1:], nil, true)]++
			for _, sign := range []string{"<", ">", "&", "'", "/", ":", " ", "\r", "x", "\u00e9", "\xff"} {
				met[checkCanonModel(t, text[:i]+sign+text[i+1:], []string{"x"}, true)]++
				met[checkCanonModel(t, text[:i]+sign+text[i:], nil, false)]++
			}
		}
	}
	checkMet(t, met, impl.OK, impl.ErrForm, impl.ErrSyntax, impl.ErrNone, impl.ErrThere)
}
