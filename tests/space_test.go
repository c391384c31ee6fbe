package tests

import (
	"fmt"
	"reflect"
	"slices"
	"strconv"
	"strings"
	"testing"

	"loop.example/g00352/impl"
)

const (
	xmlSpace   = "http://www.w3.org/XML/1998/namespace"
	xmlnsSpace = "http://www.w3.org/2000/xmlns/"
)

func checkSplit(t *testing.T, name string, want impl.Qname) {
	t.Helper()
	if got := impl.Split(name); got != want {
		t.Errorf("Split of %.200q (%d bytes): got %+v, want %+v", name, len(name), got, want)
	}
}

func TestSplit(t *testing.T) {
	for _, part := range []string{"a", "_", "a1", "x.y-z", "\u00e9", "xml", "xmlns", "\U00010000", longest, strings.Repeat("\u3042", 20)} {
		checkSplit(t, part, impl.Qname{Local: part})
		checkSplit(t, part+":a", impl.Qname{Prefix: part, Local: "a"})
		checkSplit(t, "p:"+part, impl.Qname{Prefix: "p", Local: part})
		checkSplit(t, longest+":"+part, impl.Qname{Prefix: longest, Local: part})
	}
}

func TestSplitOfNone(t *testing.T) {
	none := impl.Qname{Code: impl.ErrSyntax}
	for _, name := range []string{
		"", ":", "::", ":a", "a:", "a::b", ":a:b", "a:b:", "a:b:c", "a:b:c:d", ":::", " ", "a b", "xmlns:", ":xmlns", "xmlns:a:b",
	} {
		checkSplit(t, name, none)
	}
	for _, part := range []string{
		"1", "-", ".a", "\u00b7", "\u0300a", " a", "a ", "a\nb", "a=b", "a/b", "<", "&", "\u00d7", "\u037e", "\x00", "\xff", "a\xff", "\xc3", longest + "n", longest[:59] + "\u00e9", strings.Repeat("\u3042", 21),
	} {
		checkSplit(t, part, none)
		checkSplit(t, part+":a", none)
		checkSplit(t, "p:"+part, none)
		checkSplit(t, part+":"+part, none)
	}
	// What may go on need not be what may begin, on either side.
	checkSplit(t, "a:1", none)
	checkSplit(t, "a:-b", none)
	checkSplit(t, "a1:b1", impl.Qname{Prefix: "a1", Local: "b1"})
}

func TestSplitOfLongTexts(t *testing.T) {
	for _, text := range []string{strings.Repeat("a", 4000), strings.Repeat("a", 1999) + ":" + strings.Repeat("b", 2000), strings.Repeat(":", 4000), strings.Repeat("\xff", 4000), longest + ":" + strings.Repeat("a", 3939)} {
		checkSplit(t, text, impl.Qname{Code: impl.ErrSyntax})
		checkSplit(t, text+"a", impl.Qname{Code: impl.ErrSize})
		checkSplit(t, text+":", impl.Qname{Code: impl.ErrSize})
		checkSplit(t, text+text, impl.Qname{Code: impl.ErrSize})
	}
}

// Promise 7 of single names: what is split has its two parts, and these put together are it.
func TestPartsPutTogether(t *testing.T) {
	everyText("", []string{"a", "\u00e9", "-", "1", ":", " ", "\xff", "xmlns"}, 5, func(name string) {
		got := impl.Split(name)
		want := modelSplit(name)
		if got != want {
			t.Fatalf("Split of %q: got %+v, want %+v", name, got, want)
		}
		if got.Code == impl.OK && wholeName(got.Prefix, got.Local) != name {
			t.Fatalf("Split of %q: got %+v", name, got)
		}
	})
}

func named(prefix string, local string, space string) impl.Named {
	return impl.Named{Prefix: prefix, Local: local, Space: space}
}

func valued(prefix string, local string, space string, value string) impl.Named {
	return impl.Named{Prefix: prefix, Local: local, Space: space, Value: value}
}

func startNode(name impl.Named, decls []impl.Attr, attrs ...impl.Named) impl.Node {
	return impl.Node{Kind: impl.EvStart, Name: name, Decls: decls, Attrs: attrs}
}

func endNode(name impl.Named) impl.Node {
	return impl.Node{Kind: impl.EvEnd, Name: name}
}

func textNode(text string) impl.Node {
	return impl.Node{Kind: impl.EvText, Text: text}
}

func remarkNode(text string) impl.Node {
	return impl.Node{Kind: impl.EvComment, Text: text}
}

func orderNode(name string, text string) impl.Node {
	return impl.Node{Kind: impl.EvPi, Name: impl.Named{Local: name}, Text: text}
}

// decls: prefixes and their spaces, by turns.
func decls(l ...string) []impl.Attr {
	return start("", l...).Attrs
}

func nodes(l ...impl.Node) impl.NodesOut {
	return impl.NodesOut{Nodes: l}
}

// plainNodes: an empty list and none are the same.
func plainNodes(l []impl.Node) []impl.Node {
	var out []impl.Node
	for _, n := range l {
		if len(n.Decls) == 0 {
			n.Decls = nil
		}
		if len(n.Attrs) == 0 {
			n.Attrs = nil
		}
		out = append(out, n)
	}
	return out
}

func sameNodes(got impl.NodesOut, want impl.NodesOut) bool {
	return got.Code == want.Code && got.At == want.At && reflect.DeepEqual(plainNodes(got.Nodes), plainNodes(want.Nodes))
}

func checkSpaced(t *testing.T, l []impl.Event, want impl.NodesOut) {
	t.Helper()
	got := impl.Spaced(l)
	if !sameNodes(got, want) {
		t.Errorf("Spaced of %d events %.600s:\n got %+v\nwant %+v", len(l), fmt.Sprintf("%+v", l), got, want)
	}
}

func checkSpacedText(t *testing.T, text string, want impl.NodesOut) {
	t.Helper()
	read := impl.Read(text, true)
	if read.Code != impl.OK {
		t.Fatalf("Read of %q: got %+v", text, read)
	}
	checkSpaced(t, read.Events, want)
}

// alone: the events of an element with nothing in it.
func alone(name string, attrs ...string) []impl.Event {
	return events(start(name, attrs...), end(name))
}

// aloneNodes: the nodes of an element with nothing in it.
func aloneNodes(name impl.Named, l []impl.Attr, attrs ...impl.Named) []impl.Node {
	return []impl.Node{startNode(name, l, attrs...), endNode(name)}
}

func TestSpacedDocuments(t *testing.T) {
	a, b := named("", "a", ""), named("", "b", "")
	checkSpacedText(t, "<a/>", nodes(aloneNodes(a, nil)...))
	checkSpacedText(t, "<a k='1' l=''><b/>x<b>y</b></a>", nodes(startNode(a, nil, valued("", "k", "", "1"), valued("", "l", "", "")), startNode(b, nil), endNode(b), textNode("x"), startNode(b, nil), textNode("y"), endNode(b), endNode(a)))
	checkSpacedText(t, firstLine+"<!--1--><?p q?><!DOCTYPE a [<!ENTITY e '<b/>&#38;amp;'>]>\n<a><!---->&e;<?r?></a><?s?><!--2-->", nodes(
		remarkNode("1"), orderNode("p", "q"), startNode(a, nil), remarkNode(""), startNode(b, nil), endNode(b), textNode("&"), orderNode("r", ""), endNode(a), orderNode("s", ""), remarkNode("2")))
	pa, vb := named("p", "a", "u"), named("", "b", "v")
	checkSpacedText(t, "<p:a xmlns:p='u' xmlns='v' k='1' p:k='2'><b/></p:a>", nodes(
		startNode(pa, decls("p", "u", "", "v"), valued("", "k", "", "1"), valued("p", "k", "u", "2")), startNode(vb, nil), endNode(vb), endNode(pa)))
	// Declarations count for names ahead of them, and those that a head tells as others do.
	checkSpacedText(t, "<p:a p:k='1' xml:l='2' q:k='3' xmlns:q='w' m='4' xmlns:p='u'/>", nodes(
		aloneNodes(pa, decls("q", "w", "p", "u"), valued("p", "k", "u", "1"), valued("xml", "l", xmlSpace, "2"), valued("q", "k", "w", "3"), valued("", "m", "", "4"))...))
	checkSpacedText(t, headed("<!ATTLIST p:a xmlns:p CDATA 'u' p:k ID ' 1 '>", "<p:a/>"), nodes(aloneNodes(pa, decls("p", "u"), valued("p", "k", "u", "1"))...))
	for _, l := range documents {
		text := textOf(l)
		read := impl.Read(text, true).Events
		got := impl.Spaced(read)
		if got.Code != impl.OK || len(got.Nodes) != len(read) {
			t.Errorf("Spaced of %q: got %+v", text, got)
		}
		checkAgainstModel(t, read)
	}
}

func TestRowsThatAreNone(t *testing.T) {
	form := impl.NodesOut{Code: impl.ErrForm}
	checkSpaced(t, nil, form)
	a, b := start("a"), start("b")
	for _, l := range [][]impl.Event{
		{}, {a}, {end("a")}, {end("a"), a}, {a, end("b")}, {a, end("")}, {a, end("A")}, {a, end("a"), end("a")}, {a, a, end("a")}, {start(""), end("a")},
		{a, b, end("a"), end("b")}, {a, b, end("b")}, {a, end("a"), b, end("b")}, {a, end("a"), a, end("a")}, {a, end("a"), b}, {a, b, end("b"), end("a"), a, end("a")},
		{words("x")}, {words("x"), a, end("a")}, {a, end("a"), words("x")}, {words(" "), a, end("a")}, {a, end("a"), words("\n")}, {words(""), a, end("a")}, {a, end("a"), words("")},
		{remark("")}, {order("p", "")}, {remark(""), order("p", "")}, {remark("x"), end("a")}, {a, remark("x")},
		{start("p:a"), end("q:a")}, {start("p:a", "xmlns:p", "u", "xmlns:q", "u"), end("q:a")},
	} {
		checkSpaced(t, l, form)
		checkSpaced(t, append(events(remark("1"), order("p", "")), l...), form)
		checkSpaced(t, append(l, remark("2")), form)
	}
	for _, kind := range []int64{0, 6, 7, 8, -1, 1 << 40, -1 << 63} {
		none := impl.Event{Kind: kind, Name: "a"}
		for _, l := range [][]impl.Event{{none}, {none, a, end("a")}, {a, none, end("a")}, {a, end("a"), none}, {none, end("a")}, {a, none}} {
			checkSpaced(t, l, form)
		}
	}
	// Comments and EvPis may stand anywhere, texts within the element.
	n := named("", "a", "")
	checkSpaced(t, events(remark("1"), order("p", "2"), a, remark("3"), words("4"), words(""), order("q", "5"), end("a"), order("r", "6"), remark("7")), nodes(
		remarkNode("1"), orderNode("p", "2"), startNode(n, nil), remarkNode("3"), textNode("4"), textNode(""), orderNode("q", "5"), endNode(n), orderNode("r", "6"), remarkNode("7")))
}

// deepRow: an element within so many others.
func deepRow(most int, inside ...impl.Event) []impl.Event {
	l := append(manyEvents(start("a"), most), start("b"))
	l = append(append(l, inside...), end("b"))
	return append(l, manyEvents(end("a"), most)...)
}

func TestSpacedDeep(t *testing.T) {
	form := impl.NodesOut{Code: impl.ErrForm}
	for _, inside := range [][]impl.Event{nil, {words("x")}, {remark("x"), order("p", "")}} {
		l := deepRow(29, inside...)
		if got := impl.Spaced(l); got.Code != impl.OK || len(got.Nodes) != len(l) {
			t.Errorf("within 29 others: got %+v", got)
		}
		checkAgainstModel(t, l)
		for _, most := range []int{30, 31, 40, 190} {
			checkSpaced(t, deepRow(most, inside...), form)
		}
	}
	// Those that are ended again do not count, nor those beside it.
	l := append(events(start("c")), deepRow(28)...)
	l = append(append(l, deepRow(28)...), end("c"))
	if got := impl.Spaced(l); got.Code != impl.OK {
		t.Errorf("not deep: got %+v", got)
	}
	l = append(events(start("c")), deepRow(28)...)
	checkSpaced(t, append(append(l, deepRow(29)...), end("c")), form)
	// All that Read tells lies high enough.
	read := impl.Read(nested(30, "x"), true)
	if got := impl.Spaced(read.Events); read.Code != impl.OK || got.Code != impl.OK || len(got.Nodes) != 61 {
		t.Errorf("as deep as it is read: got %+v", got)
	}
}

// manyAttrs: so many of a name with its number, each of the same value.
func manyAttrs(name string, most int, value string) []string {
	var l []string
	for i := range most {
		l = append(l, name+strconv.Itoa(i), value)
	}
	return l
}

func TestManyAttrs(t *testing.T) {
	form := impl.NodesOut{Code: impl.ErrForm}
	name := named("", "a", "")
	var attrs []impl.Named
	for i := range 60 {
		attrs = append(attrs, valued("", "k"+strconv.Itoa(i), "", "v"))
	}
	checkSpaced(t, alone("a", manyAttrs("k", 60, "v")...), nodes(aloneNodes(name, nil, attrs...)...))
	checkSpaced(t, alone("a", manyAttrs("xmlns:p", 60, "u")...), nodes(aloneNodes(name, decls(manyAttrs("p", 60, "u")...))...))
	half := append(manyAttrs("xmlns:p", 30, "u"), manyAttrs("k", 30, "v")...)
	checkSpaced(t, alone("a", half...), nodes(aloneNodes(name, decls(manyAttrs("p", 30, "u")...), attrs[:30]...)...))
	for _, most := range []int{61, 62, 400, 401} {
		checkSpaced(t, alone("a", manyAttrs("k", most, "v")...), form)
		checkSpaced(t, alone("a", manyAttrs("xmlns:p", most, "u")...), form)
		checkSpaced(t, events(start("b"), start("a", manyAttrs("k", most, "v")...), end("a"), end("b")), form)
	}
	checkSpaced(t, alone("a", append(half, "l", "v")...), form)
	// They are counted of each element alone, and of elements alone.
	full := start("a", manyAttrs("k", 60, "v")...)
	got := impl.Spaced(events(full, full, end("a"), full, end("a"), end("a")))
	if got.Code != impl.OK || len(got.Nodes) != 6 {
		t.Errorf("full elements: got %+v", got)
	}
	other := start("", manyAttrs("k", 61, "v")...).Attrs
	n := named("", "a", "")
	checkSpaced(t, events(start("a"), impl.Event{Kind: impl.EvText, Text: "x", Attrs: other}, impl.Event{Kind: impl.EvEnd, Name: "a", Attrs: other}, impl.Event{Kind: impl.EvComment, Text: "y", Attrs: other}, impl.Event{Kind: impl.EvPi, Name: "p", Attrs: other}),
		nodes(startNode(n, nil), textNode("x"), endNode(n), remarkNode("y"), orderNode("p", "")))
}

func TestManyEvents(t *testing.T) {
	size := impl.NodesOut{Code: impl.ErrSize}
	a := named("", "a", "")
	for _, aside := range []impl.Event{remark("x"), order("p", "x")} {
		l := append(alone("a"), manyEvents(aside, 398)...)
		got := impl.Spaced(l)
		if got.Code != impl.OK || len(got.Nodes) != 400 || !reflect.DeepEqual(got.Nodes[1], endNode(a)) {
			t.Errorf("400 events: got %d nodes, %d", len(got.Nodes), got.Code)
		}
		checkAgainstModel(t, l)
		checkSpaced(t, append(l, aside), size)
		checkSpaced(t, append(l, words("x")), size)
	}
	checkSpaced(t, manyEvents(end("a"), 400), impl.NodesOut{Code: impl.ErrForm})
	checkSpaced(t, manyEvents(end("a"), 401), size)
	checkSpaced(t, make([]impl.Event, 401), size)
	checkSpaced(t, make([]impl.Event, 5000), size)
	// Texts within a list are not texts that are handed in.
	long := strings.Repeat("x", 4001)
	checkSpaced(t, events(remark(long), order(long, long), start("a", "k", long, "xmlns:p", long), words(long), end("a")), nodes(
		remarkNode(long), orderNode(long, long), startNode(a, decls("p", long), valued("", "k", "", long)), textNode(long), endNode(a)))
	checkSpaced(t, alone(long), impl.NodesOut{Code: impl.ErrSyntax})
	checkSpaced(t, alone("a", long, ""), impl.NodesOut{Code: impl.ErrSyntax})
}

// Promise 8: one within another, and the one outside again behind that.
func TestNearestDeclaration(t *testing.T) {
	pa := func(space string) impl.Named { return named("p", "a", space) }
	checkSpacedText(t, "<p:a xmlns:p='1'><p:a/><p:a xmlns:p='2'><p:a/><p:a xmlns:p='3'/><p:a/></p:a><p:a/></p:a>", nodes(
		startNode(pa("1"), decls("p", "1")), startNode(pa("1"), nil), endNode(pa("1")),
		startNode(pa("2"), decls("p", "2")), startNode(pa("2"), nil), endNode(pa("2")), startNode(pa("3"), decls("p", "3")), endNode(pa("3")), startNode(pa("2"), nil), endNode(pa("2")), endNode(pa("2")),
		startNode(pa("1"), nil), endNode(pa("1")), endNode(pa("1"))))
	a := func(space string) impl.Named { return named("", "a", space) }
	k := valued("", "k", "", "")
	checkSpacedText(t, "<a><a xmlns='1' k=''><a k=''/><a xmlns='' k=''><a xmlns='2'/><a/></a><a xmlns='1'/><a/></a><a/></a>", nodes(
		startNode(a(""), nil), startNode(a("1"), decls("", "1"), k), startNode(a("1"), nil, k), endNode(a("1")),
		startNode(a(""), decls("", ""), k), startNode(a("2"), decls("", "2")), endNode(a("2")), startNode(a(""), nil), endNode(a("")), endNode(a("")),
		startNode(a("1"), decls("", "1")), endNode(a("1")), startNode(a("1"), nil), endNode(a("1")), endNode(a("1")), startNode(a(""), nil), endNode(a("")), endNode(a(""))))
	// Each prefix by itself.
	checkSpacedText(t, "<a xmlns='0' xmlns:p='1' xmlns:q='2'><p:a xmlns:q='3' q:k=''><a p:k='' q:k='' k=''/></p:a></a>", nodes(
		startNode(a("0"), decls("", "0", "p", "1", "q", "2")), startNode(pa("1"), decls("q", "3"), valued("q", "k", "3", "")),
		startNode(a("0"), nil, valued("p", "k", "1", ""), valued("q", "k", "3", ""), k), endNode(a("0")), endNode(pa("1")), endNode(a("0"))))
	// What an element declares does not hold beside it, nor around it.
	for text, at := range map[string]int64{
		"<a><p:a xmlns:p='1'/><p:a/></a>": 3, "<a><b xmlns:p='1'/><b p:k=''/></a>": 3, "<p:a><b xmlns:p='1'/></p:a>": 0, "<a p:k=''><b xmlns:p='1'/></a>": 0, "<a><b><c xmlns:p='1'/></b><b><p:c/></b></a>": 6,
	} {
		checkSpacedText(t, text, impl.NodesOut{At: at, Code: impl.ErrNone})
	}
	// Names that begin alike, and capitals, are other prefixes.
	checkSpacedText(t, "<a xmlns:p='1' xmlns:pp='2' xmlns:P='3'><p:a/><pp:a/><P:a/></a>", nodes(
		startNode(a(""), decls("p", "1", "pp", "2", "P", "3")), startNode(pa("1"), nil), endNode(pa("1")), startNode(named("pp", "a", "2"), nil), endNode(named("pp", "a", "2")), startNode(named("P", "a", "3"), nil), endNode(named("P", "a", "3")), endNode(a(""))))
}

func TestUndeclaredPrefixes(t *testing.T) {
	none := impl.NodesOut{Code: impl.ErrNone}
	for _, l := range [][]impl.Event{
		alone("p:a"), alone("a", "p:k", ""), alone("p:a", "xmlns:q", "u"), alone("a", "q:k", "", "xmlns:p", "u"), alone("p:a", "xmlns", "u"), alone("a", "p:k", "", "xmlns", "u"), alone("p:a", "p:k", ""), alone("a", "xmlns:p", "u", "p:k", "", "q:k", ""),
		alone("XML:a"), alone("Xmlns:a"), alone("a", "XMLNS:k", "u"), alone("a", "xmlnss:k", "u"), alone("u:a", "xmlns:p", "u"),
	} {
		checkSpaced(t, l, none)
	}
	checkSpacedText(t, "<!----><a>x<p:b/></a>", impl.NodesOut{At: 3, Code: impl.ErrNone})
	checkSpacedText(t, "<!----><a>x<b k='' p:k=''/></a>", impl.NodesOut{At: 3, Code: impl.ErrNone})
	// Without any declaration xml has its space, and names without prefix the empty one.
	xa := named("xml", "a", xmlSpace)
	checkSpacedText(t, "<xml:a xml:k='' k=''/>", nodes(aloneNodes(xa, nil, valued("xml", "k", xmlSpace, ""), valued("", "k", "", ""))...))
	checkSpacedText(t, "<xml k=''/>", nodes(aloneNodes(named("", "xml", ""), nil, valued("", "k", "", ""))...))
	checkSpacedText(t, "<a xml=''/>", nodes(aloneNodes(named("", "a", ""), nil, valued("", "xml", "", ""))...))
}

func TestDeclarations(t *testing.T) {
	a := named("", "a", "")
	inner := impl.NodesOut{At: 2, Code: impl.ErrSyntax}
	for _, l := range [][]string{
		{"xmlns:p", ""}, {"xmlns:xml", "u"}, {"xmlns:xml", ""}, {"xmlns:xml", xmlSpace + "/"}, {"xmlns:xml", strings.ToLower(xmlSpace)}, {"xmlns:p", xmlSpace}, {"xmlns", xmlSpace},
		{"xmlns:xmlns", "u"}, {"xmlns:xmlns", ""}, {"xmlns:xmlns", xmlnsSpace}, {"xmlns:xmlns", xmlSpace}, {"xmlns:p", xmlnsSpace}, {"xmlns", xmlnsSpace}, {"xmlns:xml", xmlnsSpace},
		{"xmlns:", "u"}, {"xmlns:1", "u"}, {"xmlns:p:q", "u"}, {"xmlns::p", "u"}, {"xmlns:" + longest + "n", "u"},
	} {
		checkSpaced(t, alone("a", l...), impl.NodesOut{Code: impl.ErrSyntax})
		// Behind right ones, ahead of them, and in another element.
		checkSpaced(t, alone("a", append([]string{"xmlns:q", "w", "k", ""}, l...)...), impl.NodesOut{Code: impl.ErrSyntax})
		checkSpaced(t, alone("a", append(slices.Clone(l), "xmlns:q", "w", "k", "")...), impl.NodesOut{Code: impl.ErrSyntax})
		checkSpaced(t, events(start("b", "xmlns:p", "w", "xmlns", "w"), words("x"), start("a", l...), end("a"), end("b")), inner)
	}
	for _, l := range [][]string{
		{"", ""}, {"", "u"}, {"p", "u"}, {"xml", xmlSpace}, {"p", xmlSpace + "/"}, {"p", xmlSpace[1:]}, {"", xmlnsSpace + "/"}, {"p", xmlnsSpace[:28]}, {"", xmlSpace + " "}, {"Xml", "u"}, {"Xmlns", "u"}, {"XMLNS", "u"}, {"xmlnsp", "u"}, {"p", " "}, {"p", "<&\""}, {"p", "\xff"}, {longest, "u"},
		{"p", "u", "q", "u"}, {"xml", xmlSpace, "p", "u", "", "v"},
	} {
		var attrs []string
		for i, text := range l {
			if i%2 == 1 {
				attrs = append(attrs, text)
			} else if text == "" {
				attrs = append(attrs, "xmlns")
			} else {
				attrs = append(attrs, "xmlns:"+text)
			}
		}
		name := a
		if at := slices.Index(l, ""); at >= 0 && at%2 == 0 {
			name.Space = l[at+1]
		}
		checkSpaced(t, alone("a", attrs...), nodes(aloneNodes(name, decls(l...))...))
		if l[0] != "" {
			checkSpaced(t, alone(l[0]+":a", attrs...), nodes(aloneNodes(named(l[0], "a", l[1]), decls(l...))...))
		}
	}
	// What has the name xmlns in other ways is no declaration.
	checkSpaced(t, alone("xmlns", "k", "1"), nodes(aloneNodes(named("", "xmlns", ""), nil, valued("", "k", "", "1"))...))
	checkSpaced(t, alone("p:xmlns", "xmlns:p", "u", "p:xmlns", "1"), nodes(aloneNodes(named("p", "xmlns", "u"), decls("p", "u"), valued("p", "xmlns", "u", "1"))...))
	checkSpaced(t, alone("xmlns:a"), impl.NodesOut{Code: impl.ErrSyntax})
	checkSpaced(t, alone("xmlns:a", "xmlns:a", "u"), impl.NodesOut{Code: impl.ErrSyntax})
}

func TestNamesThatCantBeSplit(t *testing.T) {
	for _, name := range []string{"", ":", "a:", ":a", "a:b:c", "1", "a b", "\xff", longest + "n", "p:" + longest + "n", "p:1"} {
		checkSpaced(t, alone(name), impl.NodesOut{Code: impl.ErrSyntax})
		checkSpaced(t, alone("a", name, ""), impl.NodesOut{Code: impl.ErrSyntax})
		checkSpaced(t, alone("a", "k", "", "xmlns:p", "u", name, "v"), impl.NodesOut{Code: impl.ErrSyntax})
		checkSpaced(t, append(append(events(remark(""), start("b")), alone(name)...), end("b")), impl.NodesOut{At: 2, Code: impl.ErrSyntax})
	}
	long := longest + ":" + longest
	checkSpaced(t, alone(long, "xmlns:"+longest, "u", long, "v"), nodes(aloneNodes(named(longest, longest, "u"), decls(longest, "u"), valued(longest, longest, "u", "v"))...))
}

func TestTwoOfOneName(t *testing.T) {
	for _, l := range [][]string{
		{"xmlns:p", "u", "xmlns:q", "u", "p:k", "1", "q:k", "2"}, {"xmlns:p", "u", "p:k", "1", "p:k", "1"}, {"k", "1", "k", "2"}, {"k", "1", "l", "", "m", "", "k", "1"},
		{"q:k", "1", "l", "", "xmlns:p", "u", "r:k", "", "xmlns:q", "u", "p:k", "2", "xmlns:r", "w"}, {"xml:k", "", "xml:k", ""}, {"xmlns:xml", xmlSpace, "xml:k", "", "l", "", "xml:k", ""},
	} {
		checkSpaced(t, alone("a", l...), impl.NodesOut{Code: impl.ErrThere})
		checkSpaced(t, events(start("b", "xmlns:p", "w"), remark(""), start("a", l...), end("a"), end("b")), impl.NodesOut{At: 2, Code: impl.ErrThere})
	}
	// Prefixes that are declared around it count too.
	checkSpacedText(t, "<a xmlns:p='u'><b xmlns:q='u'><c p:k='' q:k=''/></b></a>", impl.NodesOut{At: 2, Code: impl.ErrThere})
	checkSpacedText(t, "<a xmlns:p='u' xmlns:q='w'><c p:k='' xmlns:q='u' q:k=''/></a>", impl.NodesOut{At: 1, Code: impl.ErrThere})
	a, u := named("", "a", ""), named("", "a", "u")
	k := valued("", "k", "", "1")
	for text, want := range map[string][]impl.Node{
		"<a xmlns='u' xmlns:p='u' k='1' p:k='1'/>":               aloneNodes(u, decls("", "u", "p", "u"), k, valued("p", "k", "u", "1")),
		"<a xmlns:p='u' xmlns:q='v' p:k='1' q:k='1' k='1'/>":     aloneNodes(a, decls("p", "u", "q", "v"), valued("p", "k", "u", "1"), valued("q", "k", "v", "1"), k),
		"<a xmlns:p='u' xmlns:q='u' p:k='1' q:l='1' k='1'/>":     aloneNodes(a, decls("p", "u", "q", "u"), valued("p", "k", "u", "1"), valued("q", "l", "u", "1"), k),
		"<p:a xmlns:p='u' xmlns:q='u' p:a='1' k='1'/>":           aloneNodes(named("p", "a", "u"), decls("p", "u", "q", "u"), valued("p", "a", "u", "1"), k),
		"<a xmlns:k='u' k='1' k:k='1'/>":                         aloneNodes(a, decls("k", "u"), k, valued("k", "k", "u", "1")),
		"<a xmlns:p='u' xmlns:q='uk' p:kk='1' q:k='1' k='1'/>":   aloneNodes(a, decls("p", "u", "q", "uk"), valued("p", "kk", "u", "1"), valued("q", "k", "uk", "1"), k),
		"<a xmlns:p='u' xmlns:q='U' p:k='1' q:k='1' k='1'/>":     aloneNodes(a, decls("p", "u", "q", "U"), valued("p", "k", "u", "1"), valued("q", "k", "U", "1"), k),
		"<a xmlns:p='u' xmlns:q='u ' p:k='1' q:k='1' k='1'/>":    aloneNodes(a, decls("p", "u", "q", "u "), valued("p", "k", "u", "1"), valued("q", "k", "u ", "1"), k),
		"<a xmlns:p='u' p:k='1' p:K='1' k='1' K='1'/>":           aloneNodes(a, decls("p", "u"), valued("p", "k", "u", "1"), valued("p", "K", "u", "1"), k, valued("", "K", "", "1")),
		"<a xml:k='1' xmlns:xml='" + xmlSpace + "' k='1'></a>":   aloneNodes(a, decls("xml", xmlSpace), valued("xml", "k", xmlSpace, "1"), k),
		"<a xmlns:p='u' p:k='1'><!----></a>":                     {startNode(a, decls("p", "u"), valued("p", "k", "u", "1")), remarkNode(""), endNode(a)},
		"<a k='1'><a k='1'/></a>":                                {startNode(a, nil, k), startNode(a, nil, k), endNode(a), endNode(a)},
		"<a xmlns:p='u'><a xmlns:p='v' p:k='1' k='1'></a>x</a>":  {startNode(a, decls("p", "u")), startNode(a, decls("p", "v"), valued("p", "k", "v", "1"), k), endNode(a), textNode("x"), endNode(a)},
		"<a xmlns:p='u'><a xmlns:q='u' p:k='1' q:l='1'></a></a>": {startNode(a, decls("p", "u")), startNode(a, decls("q", "u"), valued("p", "k", "u", "1"), valued("q", "l", "u", "1")), endNode(a), endNode(a)},
	} {
		checkSpacedText(t, text, nodes(want...))
	}
}

func TestOrders(t *testing.T) {
	for _, name := range []string{":", "p:q", ":p", "p:", "p:q:r", "xml:p", "xmlns:p"} {
		for _, text := range []string{"", "x"} {
			checkSpaced(t, events(order(name, text), start("a"), end("a")), impl.NodesOut{Code: impl.ErrSyntax})
			checkSpaced(t, events(start("a", "xmlns:p", "u"), order(name, text), end("a")), impl.NodesOut{At: 1, Code: impl.ErrSyntax})
			checkSpaced(t, events(start("a"), end("a"), remark(":"), order(name, text)), impl.NodesOut{At: 3, Code: impl.ErrSyntax})
		}
	}
	// A declaration of the empty prefix gives it no space; nothing else is asked of its name.
	u := named("", "a", "u")
	for _, name := range []string{"p", "", "1", "xml", "xmlns", longest + "n", "\xff", "a b"} {
		checkSpaced(t, events(start("a", "xmlns", "u"), order(name, "x:y"), end("a")), nodes(startNode(u, decls("", "u")), orderNode(name, "x:y"), endNode(u)))
	}
}

// What an event has beyond what its Kind has goes as the document says: its Text stays, but of an EvStart.
func TestWhatANodeHas(t *testing.T) {
	all := impl.Event{Name: "p:a", Text: "t:x", Attrs: start("", "xmlns:p", "u", "p:k", "1", "l", "2").Attrs}
	of := func(kind int64, name string) impl.Event {
		e := all
		e.Kind = kind
		e.Name = name
		return e
	}
	pa := named("p", "a", "u")
	checkSpaced(t, events(of(impl.EvComment, "b:c:d"), of(impl.EvStart, "p:a"), of(impl.EvText, ":"), of(impl.EvPi, "b"), of(impl.EvEnd, "p:a")), nodes(
		remarkNode("t:x"), startNode(pa, decls("p", "u"), valued("p", "k", "u", "1"), valued("", "l", "", "2")), textNode("t:x"), orderNode("b", "t:x"), impl.Node{Kind: impl.EvEnd, Name: pa, Text: "t:x"}))
	// The Attrs of what is no EvStart declare nothing.
	for _, kind := range []int64{impl.EvText, impl.EvComment, impl.EvPi} {
		checkSpaced(t, events(start("a"), of(kind, "b"), start("p:a"), end("p:a"), end("a")), impl.NodesOut{At: 2, Code: impl.ErrNone})
	}
	checkSpaced(t, events(start("a"), start("b"), of(impl.EvEnd, "b"), start("p:a"), end("p:a"), end("a")), impl.NodesOut{At: 3, Code: impl.ErrNone})
}

func TestSpacedOrderOfFaults(t *testing.T) {
	// Of one event: what can't be split, declarations, what is not declared, two of one name.
	for _, c := range []struct {
		name  string
		attrs []string
		code  int64
	}{
		{"q:a", []string{"k", "", "k", "", "xmlns:p", "", "1", ""}, impl.ErrSyntax},
		{"q:a", []string{"k", "", "k", "", "xmlns:p", ""}, impl.ErrSyntax},
		{"a", []string{"q:k", "", "k", "", "k", "", "xmlns:xmlns", "u"}, impl.ErrSyntax},
		{"xmlns:a", []string{"q:k", "", "k", "", "k", ""}, impl.ErrSyntax},
		{"q:a", []string{"a:b:c", ""}, impl.ErrSyntax},
		{"a:b:c", []string{"q:k", ""}, impl.ErrSyntax},
		{"a", []string{"k", "", "k", "", ":", ""}, impl.ErrSyntax},
		{"q:a", []string{"k", "", "k", "", "xmlns:p", "u"}, impl.ErrNone},
		{"a", []string{"k", "", "k", "", "q:k", ""}, impl.ErrNone},
		{"a", []string{"q:k", "", "q:k", ""}, impl.ErrNone},
		{"a", []string{"k", "", "xmlns:p", "u", "k", "", "p:k", ""}, impl.ErrThere},
	} {
		checkSpaced(t, alone(c.name, c.attrs...), impl.NodesOut{Code: c.code})
		checkSpaced(t, append(append(events(start("b"), words("x")), alone(c.name, c.attrs...)...), end("b")), impl.NodesOut{At: 2, Code: c.code})
	}
	// Of several events: the first, whatever its code.
	wrong := map[int64][]impl.Event{
		impl.ErrSyntax: {start("a", "xmlns:p", ""), start("1"), start("xmlns:a"), order("p:q", "")}, impl.ErrNone: {start("q:a"), start("a", "q:k", "")}, impl.ErrThere: {start("a", "k", "", "k", "")},
	}
	ended := func(e impl.Event) []impl.Event {
		if e.Kind == impl.EvPi {
			return events(e)
		}
		return events(e, end(e.Name))
	}
	for code, first := range wrong {
		for _, f := range first {
			for _, second := range wrong {
				for _, s := range second {
					l := append(append(events(start("b"), words("x")), ended(f)...), ended(s)...)
					checkSpaced(t, append(l, end("b")), impl.NodesOut{At: 2, Code: code})
					if f.Kind == impl.EvStart {
						inner := append(append(events(start("b"), f), ended(s)...), end(f.Name), end("b"))
						checkSpaced(t, inner, impl.NodesOut{At: 1, Code: code})
					}
					// What is no row is told ahead of them, what is too long ahead of that.
					checkSpaced(t, l, impl.NodesOut{Code: impl.ErrForm})
					checkSpaced(t, append(slices.Clone(l), end("b"), words("")), impl.NodesOut{Code: impl.ErrForm})
					checkSpaced(t, append(slices.Clone(l), manyEvents(words("x"), 401)...), impl.NodesOut{Code: impl.ErrSize})
				}
			}
		}
	}
	many := append(manyAttrs("k", 60, ""), "1", "")
	checkSpaced(t, events(start("q:a"), start("a", many...), end("a"), end("q:a")), impl.NodesOut{Code: impl.ErrForm})
	checkSpaced(t, append(append(manyEvents(start("q:a"), 31), words("x")), manyEvents(end("q:a"), 31)...), impl.NodesOut{Code: impl.ErrForm})
}

// The last of two declarations of one prefix in one element counts, as it would if the first were of an element around it.
func TestTwoDeclarationsOfOnePrefix(t *testing.T) {
	checkSpaced(t, alone("p:a", "xmlns:p", "u", "xmlns:p", "v", "xmlns", "1", "xmlns", "2", "p:k", ""), nodes(aloneNodes(named("p", "a", "v"), decls("p", "u", "p", "v", "", "1", "", "2"), valued("p", "k", "v", ""))...))
}

func TestSpacedAnswersAreNew(t *testing.T) {
	row := func() []impl.Event {
		return events(remark("c"), start("p:a", "xmlns:p", "u", "k", "1", "p:k", "2", "xmlns:q", "v", "q:l", "3"), start("a", "k", "1", "l", "2", "xmlns", "w"), words("x"), end("a"), order("o", "y"), end("p:a"))
	}
	l := row()
	first, second := impl.Spaced(l), impl.Spaced(l)
	want := modelSpaced(l)
	if !reflect.DeepEqual(l, row()) {
		t.Errorf("the events are changed: %+v", l)
	}
	for i := range l {
		for j := range l[i].Attrs {
			l[i].Attrs[j] = impl.Attr{Name: "z", Value: "z"}
		}
		l[i].Name = "z"
	}
	if !sameNodes(first, want) {
		t.Errorf("the answer shares memory with the events: %+v", first)
	}
	// Each list in turn is written over as far as it goes: all others stay.
	for i := range first.Nodes {
		got := impl.Spaced(row())
		d := got.Nodes[i].Decls
		d = append(d[:len(d):cap(d)], make([]impl.Attr, cap(d)-len(d))...)
		for j := range d {
			d[j] = impl.Attr{Name: "z", Value: "z"}
		}
		got.Nodes[i].Decls = want.Nodes[i].Decls
		if !sameNodes(got, want) {
			t.Errorf("the Decls of %d share memory: %+v", i, got)
		}
		a := got.Nodes[i].Attrs
		a = append(a[:len(a):cap(a)], make([]impl.Named, cap(a)-len(a))...)
		for j := range a {
			a[j] = impl.Named{Local: "z"}
		}
		got.Nodes[i].Attrs = want.Nodes[i].Attrs
		if !sameNodes(got, want) {
			t.Errorf("the Attrs of %d share memory: %+v", i, got)
		}
	}
	if !sameNodes(second, want) {
		t.Errorf("two answers share memory: %+v", second)
	}
}
