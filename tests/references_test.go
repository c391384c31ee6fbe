package tests

import (
	"strconv"
	"strings"
	"testing"

	"loop.example/g00352/impl"
)

// headed: a document with a head ahead of it.
func headed(head string, text string) string {
	return "<!DOCTYPE a [" + head + "]>" + text
}

func ent(name string, value string) string {
	return "<!ENTITY " + name + " \"" + value + "\">"
}

// checkFault: a fault that is told at the text or mark behind all this, with these events ahead of it.
func checkFault(t *testing.T, ahead string, rest string, code int64, told ...impl.Event) {
	t.Helper()
	checkBoth(t, ahead+rest, impl.EventsOut{Events: told, At: int64(len(ahead)), Code: code})
}

func TestReferencesToSigns(t *testing.T) {
	for text, want := range map[string]string{
		"&lt;": "<", "&gt;": ">", "&amp;": "&", "&apos;": "'", "&quot;": "\"", "&amp;lt;": "&lt;", "&amp;#60;": "&#60;", "&lt;b/&gt;": "<b/>", "]]&gt;": "]]>",
		"&#65;": "A", "&#x41;": "A", "&#00000065;": "A", "&#x0000004a;": "J", "&#60;": "<", "&#38;": "&", "&#38;lt;": "&lt;", "&#38;#60;": "&#60;", "&#62;": ">", "]]&#62;": "]]>",
		"&#9;&#10;&#13;&#32;": "\t\n\r ", "&#x10FFFF;": "\U0010FFFF", "&#xd7ff;&#xE000;&#xFFFD;&#x10000;": "\ud7ff\ue000\ufffd\U00010000", "\u20ac&#8364;": "\u20ac\u20ac",
	} {
		checkWhole(t, "<a>"+text+"</a>", start("a"), words(want), end("a"))
		checkWhole(t, "<a k='"+text+"'/>", start("a", "k", want), end("a"))
		checkWhole(t, headed("<!ATTLIST a k CDATA \""+text+"\">", "<a/>"), start("a", "k", want), end("a"))
		// The five names stand for their signs, whatever a head says.
		other := ent("lt", "no") + ent("gt", "<") + ent("amp", "&amp;") + ent("apos", "&none;") + ent("quot", "")
		checkWhole(t, headed(other, "<a k=\""+text+"\">"+text+"</a>"), start("a", "k", want), words(want), end("a"))
	}
}

func TestWrongReferences(t *testing.T) {
	for _, text := range wrongEntityTexts {
		if strings.Contains(text, "%") {
			continue
		}
		told := start("a")
		checkFault(t, "<a>", text+"<b/>", impl.ErrSyntax, told)
		checkFault(t, "<a><b/>", "x&lt;"+text+"</a>", impl.ErrSyntax, told, start("b"), end("b"))
		checkFault(t, "<a>", "<b k=\""+text+"\"/>", impl.ErrSyntax, told)
		checkFault(t, "<a>x<b/>", "<b j='' k=\"x"+text+"\" l='&x;'/>", impl.ErrSyntax, told, words("x"), start("b"), end("b"))
		if strings.Contains(text, "<") {
			continue
		}
		checkFault(t, headed("<!ATTLIST b k CDATA \""+text+"\">", "<a>"), "<b/>", impl.ErrSyntax, told)
		checkWhole(t, headed("<!ATTLIST b k CDATA \""+text+"\">", "<a><b k='&lt;'/></a>"), told, start("b", "k", "<"), end("b"), end("a"))
	}
	// A reference does not go on behind an entity's end, or from one text to another.
	checkFault(t, headed(ent("e", "&#38;"), "<a>"), "&e;lt;</a>", impl.ErrSyntax, start("a"))
	checkFault(t, headed(ent("e", "x&#38;"), "<a>"), "<b k='&e;lt;'/>", impl.ErrSyntax, start("a"))
	checkFault(t, headed(ent("e", "&#38;#38"), "<a>"), "&e;;</a>", impl.ErrSyntax, start("a"))
	checkFault(t, "<a>", "&l<![CDATA[t;]]></a>", impl.ErrSyntax, start("a"))
	checkFault(t, "<a>", "&l<!---->t;</a>", impl.ErrSyntax, start("a"))
	// Nothing refers in marks that are no text.
	checkWhole(t, "<a><![CDATA[&x;&]]><!--&x;&--><?p &x;&?></a>", start("a"), words("&x;&"), remark("&x;&"), order("p", "&x;&"), end("a"))
}

func TestNoEntity(t *testing.T) {
	for _, head := range []string{"", ent("e", "x"), ent("X", ""), ent("xx", ""), "<!ATTLIST x x CDATA ''>"} {
		checkFault(t, headed(head, "<a>"), "1&x;2</a>", impl.ErrNone, start("a"))
		checkFault(t, headed(head, "<a>"), "<b k='1&x;2'/>", impl.ErrNone, start("a"))
		checkFault(t, headed(head, "<a>x<b/>"), "y&lt;&x;</a>", impl.ErrNone, start("a"), words("x"), start("b"), end("b"))
		checkFault(t, headed(head+ent("f", "<c/>&x;"), "<a>"), "y&f;</a>", impl.ErrNone, start("a"), words("y"), start("c"), end("c"))
		checkFault(t, headed(head+ent("f", "y<c k='&x;'/>"), "<a>"), "&f;</a>", impl.ErrNone, start("a"))
	}
	checkFault(t, "<a>", "&LT;</a>", impl.ErrNone, start("a"))
	checkFault(t, "<a>", "&nbsp;</a>", impl.ErrNone, start("a"))
	// One that nothing refers to may say what it will.
	checkWhole(t, headed(ent("e", "&x;")+ent("f", "<b>")+ent("g", "&g;")+ent("h", "&#38;"), "<a/>"), start("a"), end("a"))
}

// Promise 5: what a head says in an entity is read as if it stood there.
func TestEntitiesInContent(t *testing.T) {
	contents := map[string][]impl.Event{
		"": nil, "x": events(words("x")), "\u20ac &lt;": events(words("\u20ac <")), "<b/>": events(start("b"), end("b")), "1<b k='&lt;\t'>2</b>3": events(words("1"), start("b", "k", "< "), words("2"), end("b"), words("3")),
		"<!--c-->": events(remark("c")), "<?p x?>": events(order("p", "x")), "<![CDATA[<b>]]>": events(words("<b>")), " \n": events(words(" \n")), "<b><c/></b><b/>": events(start("b"), start("c"), end("c"), end("b"), start("b"), end("b")), "<a></a>": events(start("a"), end("a")),
	}
	for first, one := range contents {
		for second, two := range contents {
			raw := append(events(start("a"), words("<")), one...)
			raw = append(append(append(raw, words("<")), two...), one...)
			want := joined(append(raw, end("a")))
			checkWhole(t, "<a>&lt;"+first+"&lt;"+second+first+"</a>", want...)
			checkWhole(t, headed(ent("e", first)+ent("f", second), "<a>&lt;&e;&lt;&f;&e;</a>"), want...)
			checkWhole(t, headed(ent("f", "&lt;"+second+"&e;")+ent("e", first), "<a>&lt;&e;&f;</a>"), want...)
			checkWhole(t, headed(ent("g", "&lt;&e;&lt;&f;&e;")+ent("f", second)+ent("e", first)+ent("h", "&g;"), "<a>&h;</a>"), want...)
			checkWhole(t, headed(ent("c", "<a>&lt;&e;&lt;&f;&e;</a>")+ent("f", second)+ent("e", first), "<r>&c;</r>"), append(append(events(start("r")), want...), end("r"))...)
		}
	}
	// What a number says in the head is there ahead of the reading.
	checkWhole(t, headed(ent("e", "&#60;b k=&#34;1&#34;/&#62;"), "<a>&e;</a>"), start("a"), start("b", "k", "1"), end("b"), end("a"))
	checkWhole(t, headed(ent("e", "&#38;#60;b/>"), "<a>&e;</a>"), start("a"), words("<b/>"), end("a"))
	checkWhole(t, headed(ent("e", "&#38;f;")+ent("f", "y"), "<a>&e;</a>"), start("a"), words("y"), end("a"))
	// The first of a name counts.
	checkWhole(t, headed(ent("e", "1")+ent("e", "<b>"), "<a>&e;</a>"), start("a"), words("1"), end("a"))
}

func TestEntitiesThatAreNotWhole(t *testing.T) {
	a, b := start("a"), start("b")
	for _, c := range []struct {
		text string
		told []impl.Event
	}{
		{"<b>", events(a, b)}, {"</a>", events(a)}, {"</b>", events(a)}, {"<b></a>", events(a, b)}, {"<b></b></b>", events(a, b, end("b"))}, {"<b></b></a>", events(a, b, end("b"))}, {"<b><c/>x", events(a, b, start("c"), end("c"))},
		{"<!DOCTYPE a>", events(a)}, {"<b/><!DOCTYPE a>", events(a, b, end("b"))}, {"<b><!DOCTYPE a></b>", events(a, b)},
		{"<", events(a)}, {"<b", events(a)}, {"<b/", events(a)}, {"<!-- c -", events(a)}, {"<![CDATA[x]]", events(a)}, {"<?p", events(a)}, {"<b/><", events(a, b, end("b"))}, {"x<b k='", events(a)},
		{"<?xml ?>", events(a)}, {"<?xml version='1.0'?>", events(a)}, {"]]>", events(a)}, {"<b/>x]]&#62;", events(a, b, end("b"))}, {"< b>", events(a)}, {"<!ENTITY f 'x'>", events(a)}, {"<b/>&#38;", events(a, b, end("b"))},
	} {
		for _, ahead := range []string{"", "x", "&lt;", "&n;", "<!-- &#38; -->", "<![CDATA[&#38;]]>"} {
			told := c.told
			if strings.HasPrefix(ahead, "<!--") {
				told = append(events(a, remark(" & ")), c.told[1:]...)
			} else if text := map[string]string{"x": "x", "&lt;": "<", "<![CDATA[&#38;]]>": "&"}[ahead]; text != "" && len(c.told) > 1 {
				told = append(events(a, words(text)), c.told[1:]...)
			}
			// A fault within an entity is told at the text of the document that refers to it.
			heads := ent("n", "") + ent("e", ahead+c.text)
			checkFault(t, headed(heads, "<a>"), "&e;</b></a>", impl.ErrSyntax, told...)
			checkFault(t, headed(heads+ent("f", "&n;&e;</b>"), "<a>"), "&n;&f;</b></a>", impl.ErrSyntax, told...)
		}
	}
	checkFault(t, headed(ent("e", "<b k='1' k='2'/>"), "<a>x<c/>"), "yy&e;</a>", impl.ErrThere, a, words("x"), start("c"), end("c"))
	checkFault(t, headed(ent("e", encodedLine[:6]+"?>"), "<a>"), "&e;</a>", impl.ErrSyntax, a)
	// Elements of an entity may end nowhere else, even if the names would go together.
	checkFault(t, headed(ent("e", "<b>")+ent("f", "</b>"), "<a>"), "&e;&f;</a>", impl.ErrSyntax, a, b)
	checkFault(t, headed(ent("f", "</b>"), "<a><b>"), "&f;</a>", impl.ErrSyntax, a, b)
}

// Next takes no text with a byte 13, which an entity may have by its number; a value is not read by Next.
func TestEntitiesWithAByte13(t *testing.T) {
	for _, text := range []string{"&#13;", "x&#13;y", "<b/>&#xD;", "<!--&#13;-->", "&#13;&none;"} {
		checkFault(t, headed(ent("e", text), "<a>y<c/>"), "x&e;</a>", impl.ErrForm, start("a"), words("y"), start("c"), end("c"))
		checkFault(t, headed(ent("e", text)+ent("f", "<b/>&e;"), "<a>"), "&f;</a>", impl.ErrForm, start("a"), start("b"), end("b"))
	}
	checkWhole(t, headed(ent("e", "&#38;#13;\n"), "<a>&e;</a>"), start("a"), words("\r\n"), end("a"))
	checkWhole(t, headed(ent("e", "&#13;"), "<a k=' &e;'/>"), start("a", "k", " \r"), end("a"))
}

// Promise 5.
func TestLoops(t *testing.T) {
	chain := ""
	for n := range 40 {
		chain += ent("e."+strconv.Itoa(n), "&e."+strconv.Itoa((n+1)%40)+";")
	}
	for _, c := range []struct {
		head string
		told []impl.Event
	}{
		{ent("e", "&e;"), nil}, {ent("e", "x&e;"), nil}, {ent("e", "&f;") + ent("f", "&e;"), nil}, {ent("f", "&g;") + ent("g", "&f;") + ent("e", "1&f;"), nil}, {ent("e", "&#38;e;"), nil}, {ent("e", "&n;&n;&e;") + ent("n", ""), nil}, {strings.ReplaceAll(chain, "e.0", "e"), nil},
		{ent("e", "<b/>&e;"), events(start("b"), end("b"))}, {ent("e", "<b>&e;</b>"), events(start("b"))}, {ent("e", "<b k='&e;'/>"), nil}, {ent("e", "<b k='&f;'/>") + ent("f", "&e;"), nil}, {ent("e", "<b/>x&f;") + ent("f", "<c>&e;"), events(start("b"), end("b"), words("x"), start("c"))},
		{ent("e", "<b/>") + "<!ATTLIST b k CDATA '&e;'>", nil},
		// The loop is met ahead of what else is wrong behind it.
		{ent("e", "&e;&none;"), nil}, {ent("e", "&e;<b>"), nil}, {ent("e", "&e;"+strings.Repeat("x", 2500)), nil},
	} {
		checkFault(t, headed(c.head, "<a>"), "&e;</a>", impl.ErrLoop, append(events(start("a")), c.told...)...)
		checkFault(t, headed(c.head, "<a>x<d/>"), "y&lt;&e;&none;</a>", impl.ErrLoop, joined(append(events(start("a"), words("x"), start("d"), end("d"), words("y<")), c.told...))...)
		if !strings.Contains(c.head, "<b") {
			checkFault(t, headed(c.head, "<a>"), "<b k='&e;'/>", impl.ErrLoop, start("a"))
			checkFault(t, headed(c.head+"<!ATTLIST b k ID '&lt;&e;'>", "<a>x<a/>"), "<b/>", impl.ErrLoop, start("a"), words("x"), start("a"), end("a"))
		}
		checkWhole(t, headed(c.head, "<a><!--&e;--></a>"), start("a"), remark("&e;"), end("a"))
	}
	// What comes ahead of the loop is told.
	checkFault(t, headed(ent("e", "&none;&e;"), "<a>"), "&e;</a>", impl.ErrNone, start("a"))
	// An entity that is read again, behind itself, is none that leads to itself.
	again := ent("e", "1") + ent("f", "&e;&e;") + ent("g", "&f;&e;&f;")
	checkWhole(t, headed(again, "<a k='&e;&g;&e;&f;&g;'>&e;&g;&e;&f;&g;</a>"), start("a", "k", "11111111111111"), words("11111111111111"), end("a"))
	checkWhole(t, headed(ent("e", "<b k='&f;'>&f;</b>")+ent("f", "x"), "<a>&e;&e;</a>"), start("a"), start("b", "k", "x"), words("x"), end("b"), start("b", "k", "x"), words("x"), end("b"), end("a"))
	checkWhole(t, headed(ent("e", "<!--&e;--><![CDATA[&e;]]>"), "<a>&e;</a>"), start("a"), remark("&e;"), words("&e;"), end("a"))
}

func TestEntitiesAreFull(t *testing.T) {
	if impl.MaxOut != 4000 {
		t.Fatalf("MaxOut: %d", impl.MaxOut)
	}
	hundred := strings.Repeat("h", 100)
	head := ent("e", hundred) + ent("f", "1") + ent("n", "") + ent("g", "&e;"+hundred[:97]) + ent("k", strings.Repeat("k", 50)) + "<!ATTLIST c d CDATA '&e;&k;'>"
	a := start("a")
	many := strings.Repeat("&e;", 40)
	checkWhole(t, headed(head, "<a>"+many+"</a>"), a, words(strings.Repeat("h", 4000)), end("a"))
	checkWhole(t, headed(head, "<a>"+many+strings.Repeat("&n;", 50)+"&lt;&#65;</a>"), a, words(strings.Repeat("h", 4000)+"<A"), end("a"))
	checkFault(t, headed(head, "<a>"), many+"&f;</a>", impl.ErrFull, a)
	checkFault(t, headed(head, "<a>"), many+"&e;</a>", impl.ErrFull, a)
	// It is counted in all the document: in content, in values, in those of the head, and one within another.
	checkWhole(t, headed(head, "<a k='"+many[3:]+"'>&e;</a>"), start("a", "k", strings.Repeat("h", 3900)), words(hundred), end("a"))
	checkFault(t, headed(head, "<a k='"+many+"'>"), "&f;</a>", impl.ErrFull, start("a", "k", strings.Repeat("h", 4000)))
	checkFault(t, headed(head, "<a>"), "<b k='"+many+"' l='&f;'/>", impl.ErrFull, a)
	checkFault(t, headed(head, "<a>"+many+"<b/>"), "<b k='&f;'/>", impl.ErrFull, a, words(strings.Repeat("h", 4000)), start("b"), end("b"))
	nine := strings.Repeat("&g;&g;", 9) + "&e;&e;&e;"
	checkWhole(t, headed(head, "<a>"+nine+"&e;</a>"), a, words(strings.Repeat("h", 18*197+400)), end("a"))
	checkFault(t, headed(head, "<a>"+nine+"&e;<b/>"), "&f;</a>", impl.ErrFull, a, words(strings.Repeat("h", 18*197+400)), start("b"), end("b"))
	// The reference within fills it: 3900 bytes, and 100 and 100 more.
	checkFault(t, headed(head, "<a>"), nine+"&g;</a>", impl.ErrFull, a)
	ofHead := strings.Repeat("h", 100) + strings.Repeat("k", 50)
	var twenty []impl.Event
	for range 26 {
		twenty = append(twenty, start("c", "d", ofHead), end("c"))
	}
	checkWhole(t, headed(head, "<a>"+strings.Repeat("<c/>", 26)+"&e;</a>"), joined(append(append(events(a), twenty...), words(hundred), end("a")))...)
	checkFault(t, headed(head, "<a>"+strings.Repeat("<c/>", 26)), "<c/>", impl.ErrFull, append(events(a), twenty...)...)
	checkFault(t, headed(head, "<a>"+strings.Repeat("<c/>", 26)), "&e;&f;</a>", impl.ErrFull, append(events(a), twenty...)...)
	// What the mark has of its own fills nothing.
	checkWhole(t, headed(head, "<a>"+many+"<c d=''/></a>"), a, words(strings.Repeat("h", 4000)), start("c", "d", ""), end("c"), end("a"))
}

func TestFullIsNamedInItsOrder(t *testing.T) {
	a := start("a")
	big := ent("e", strings.Repeat("x", 2001)) + ent("l", strings.Repeat("x", 500)+"&l;")
	checkWhole(t, headed(big, "<a>&e;</a>"), a, words(strings.Repeat("x", 2001)), end("a"))
	checkFault(t, headed(big, "<a>"), "&e;&e;</a>", impl.ErrFull, a)
	checkFault(t, headed(big, "<a>"), "&e;&none;&e;</a>", impl.ErrNone, a)
	checkFault(t, headed(big, "<a>"), "&e;&e;&none;</a>", impl.ErrFull, a)
	checkFault(t, headed(big, "<a>"), "&l;</a>", impl.ErrLoop, a)
	// A loop is named ahead of what is full.
	loop := ent("e", strings.Repeat("x", 2500)+"&e;")
	checkFault(t, headed(loop, "<a>"), "&e;</a>", impl.ErrLoop, a)
	checkFault(t, headed(loop, "<a>"), "<b k='&e;'/>", impl.ErrLoop, a)
	// Texts of entities that grow by others, far beyond what may be.
	grow := ""
	for n := range 30 {
		next := "&e" + strconv.Itoa(n+1) + ";"
		grow += ent("e"+strconv.Itoa(n), next+next)
	}
	checkFault(t, headed(grow+ent("e30", "."), "<a>"), "&e0;</a>", impl.ErrFull, a)
	checkFault(t, headed(grow+ent("e30", "."), "<a>"), "<b k='&e0;'/>", impl.ErrFull, a)
}

func TestSignsInValues(t *testing.T) {
	a := start("a")
	for text, want := range map[string]string{"&#38;lt;": "<", "&lt;": "<", "&#38;#60;": "<", "&#38;#x3C;b": "<b", "&#62;": ">", "&#34;'": "\"'", "]]>--": "]]>--", "&amp;lt;": "&lt;", "x&f;y": "x<y"} {
		head := ent("e", text) + ent("f", "&lt;")
		checkWhole(t, headed(head, "<a k='1&e;2'/>"), start("a", "k", "1"+want+"2"), end("a"))
		checkWhole(t, headed(head+ent("g", "&e;&#38;#60;"), "<a k=\"&g;\"/>"), start("a", "k", want+"<"), end("a"))
		checkWhole(t, headed(head+"<!ATTLIST a k CDATA '&e;&#60;'>", "<a/>"), start("a", "k", want+"<"), end("a"))
	}
	for _, text := range []string{"<", "x<", "&#60;", "&#x3c;b/>", "<b/>", "&lt;<", "<!---->", "<![CDATA[x]]>", "&f;<", "<&none;", "<&e;"} {
		head := ent("e", text) + ent("f", "y") + ent("g", "&f;&e;")
		checkFault(t, headed(head, "<a>x<b/>"), "<b k='&e;'/>", impl.ErrSyntax, a, words("x"), start("b"), end("b"))
		checkFault(t, headed(head, "<a>"), "<b j='&f;' k=\"1 &f;&g;\" l='&none;'>", impl.ErrSyntax, a)
		checkFault(t, headed(head+"<!ATTLIST b k CDATA '&e;'>", "<a>"), "<b j=''/>", impl.ErrSyntax, a)
	}
	// What comes first is told.
	checkFault(t, headed(ent("e", "&none;<"), "<a>"), "<b k='&e;'/>", impl.ErrNone, a)
	checkFault(t, headed(ent("e", "&e;<"), "<a>"), "<b k='&e;'/>", impl.ErrLoop, a)
	// Values are read in their order, those of the mark ahead of those of the head.
	head := ent("s", "<") + "<!ATTLIST b k CDATA '&s;'>"
	checkFault(t, headed(head, "<a>"), "<b l='&none;' m='&s;'/>", impl.ErrNone, a)
	checkFault(t, headed(head, "<a>"), "<b m='&s;' l='&none;'/>", impl.ErrSyntax, a)
	checkFault(t, headed(head, "<a>"), "<b l='&none;'/>", impl.ErrNone, a)
	checkFault(t, headed(head, "<a>"), "<b l=''/>", impl.ErrSyntax, a)
}

// Each value as it stands, with what it is without Words, and with them.
var values = []struct {
	text  string
	plain string
	words string
}{
	{"", "", ""}, {"x", "x", "x"}, {" ", " ", ""}, {"   ", "   ", ""}, {"\t", " ", ""}, {"\n\n", "  ", ""}, {" x ", " x ", "x"}, {"  x  y  ", "  x  y  ", "x y"}, {"x y", "x y", "x y"}, {"\tx\n \ty\n", " x   y ", "x y"}, {"a\nb\tc d", "a b c d", "a b c d"},
	{"&#32;", " ", ""}, {"&#32;&#x20;x&#32;&#32;y&#32;", "  x  y ", "x y"}, {" &#32; x &#32; ", "   x   ", "x"},
	{"&#9;", "\t", "\t"}, {"&#10;x&#13;", "\nx\r", "\nx\r"}, {" &#9; x &#10;&#10; ", " \t x \n\n ", "\t x \n\n"}, {"\t&#9;\t\t&#9;\t", " \t  \t ", "\t \t"},
	{"&s;", " ", ""}, {"x&s;&s;y", "x  y", "x y"}, {"&w;x&w;", "   x   ", "x"}, {"&v;", "\t\n\r", "\t\n\r"}, {" &v; ", " \t\n\r ", "\t\n\r"}, {"&n; &n;", " ", ""}, {"&q;", " a b ", "a b"},
	{"\u00a0 \u2003\u0085", "\u00a0 \u2003\u0085", "\u00a0 \u2003\u0085"}, {"  \u20ac  \U0001F600 ", "  \u20ac  \U0001F600 ", "\u20ac \U0001F600"}, {"&lt; &gt;", "< >", "< >"},
}

// White that stands in an entity's Text is white, though a number put it there; what its Text says by a number is not.
const whiteEnts = "<!ENTITY s ' '><!ENTITY w '&#9;&#10;&#32;'><!ENTITY v '&#38;#9;&#38;#10;&#38;#13;'><!ENTITY n ''><!ENTITY q '\ta&s;b\n'>"

func TestWhiteInValues(t *testing.T) {
	for _, v := range values {
		for _, kind := range []string{"ID", "IDREF", "NMTOKEN", "NMTOKENS"} {
			for _, given := range []string{"#REQUIRED", "#IMPLIED", "'d'", "#FIXED 'd'"} {
				head := whiteEnts + "<!ATTLIST a k " + kind + " " + given + " j CDATA #IMPLIED>"
				checkWhole(t, headed(head, "<a i=\""+v.text+"\" j='"+v.text+"' k='"+v.text+"'/>"), start("a", "i", v.plain, "j", v.plain, "k", v.words), end("a"))
			}
			head := whiteEnts + "<!ATTLIST a k " + kind + " '" + v.text + "' j CDATA '" + v.text + "'>"
			checkWhole(t, headed(head, "<a/>"), start("a", "k", v.words, "j", v.plain), end("a"))
			// Of another element or of another name Words says nothing.
			head = whiteEnts + "<!ATTLIST b k " + kind + " #IMPLIED><!ATTLIST a kk " + kind + " #IMPLIED K " + kind + " #IMPLIED>"
			checkWhole(t, headed(head, "<a k=\""+v.text+"\"/>"), start("a", "k", v.plain), end("a"))
		}
		checkWhole(t, headed(whiteEnts, "<a k='"+v.text+"'><b k='"+v.text+"'/></a>"), start("a", "k", v.plain), start("b", "k", v.plain), end("b"), end("a"))
	}
	checkRead(t, "<a k='\r\n\r&#13;\n'/>", true, impl.EventsOut{Events: events(start("a", "k", "  \r "), end("a")), At: 17})
	// The first of these two names counts.
	checkWhole(t, headed("<!ATTLIST a k CDATA #IMPLIED><!ATTLIST a k ID ' 1 '>", "<a k=' x '/>"), start("a", "k", " x "), end("a"))
	// In text white stays as it is.
	checkWhole(t, headed(whiteEnts, "<a>\t\n &w;&v;</a>"), start("a"), words("\t\n \t\n \t\n\r"), end("a"))
}

// Promise 6.
func TestValuesOfTheHead(t *testing.T) {
	head := "<!ATTLIST a z CDATA '1' y ID #IMPLIED x CDATA #REQUIRED w CDATA #FIXED '4'><!ATTLIST b z CDATA '5'><!ATTLIST a v CDATA '' z CDATA '6' u ID ' 7 8 '>"
	for mark, want := range map[string]impl.Event{
		"<a/>":                      start("a", "z", "1", "w", "4", "v", "", "u", "7 8"),
		"<a x='X' y=' Y  Y '/>":     start("a", "x", "X", "y", "Y Y", "z", "1", "w", "4", "v", "", "u", "7 8"),
		"<a z=''/>":                 start("a", "z", "", "w", "4", "v", "", "u", "7 8"),
		"<a w='W' a='A'/>":          start("a", "w", "W", "a", "A", "z", "1", "v", "", "u", "7 8"),
		"<a v='V' u=' U ' w='W'/>":  start("a", "v", "V", "u", "U", "w", "W", "z", "1"),
		"<a u='' v='' w='' z=''/>":  start("a", "u", "", "v", "", "w", "", "z", ""),
		"<a Z='' zz='' z:z=''/>":    start("a", "Z", "", "zz", "", "z:z", "", "z", "1", "w", "4", "v", "", "u", "7 8"),
		"<b/>":                      start("b", "z", "5"),
		"<b z='6'/>":                start("b", "z", "6"),
		"<b w=' W '/>":              start("b", "w", " W ", "z", "5"),
		"<c/>":                      start("c"),
		"<c z='Z'/>":                start("c", "z", "Z"),
		"<A/>":                      start("A"),
		"<aa/>":                     start("aa"),
		"<c k='1' j='2' i=' 3 4 '>": start("c", "k", "1", "j", "2", "i", " 3 4 "),
	} {
		mark = strings.TrimSuffix(strings.TrimSuffix(mark, "/>"), ">")
		name := want.Name
		checkWhole(t, headed(head, mark+"/>"), want, end(name))
		checkWhole(t, headed(head, mark+"></"+name+">"), want, end(name))
		checkWhole(t, headed(head, "<r>"+mark+"/>"+mark+">x"+mark+"/></"+name+"></r>"), start("r"), want, end(name), want, words("x"), want, end(name), end(name), end("r"))
		checkWhole(t, headed(head+ent("e", mark+"/>"), "<r>&e;&e;</r>"), start("r"), want, end(name), want, end(name), end("r"))
	}
	checkFault(t, headed("<!ATTLIST a k CDATA '&none;'>", ""), "<a/>", impl.ErrNone)
	checkWhole(t, headed("<!ATTLIST a k CDATA '&none;'>", "<a k='1'/>"), start("a", "k", "1"), end("a"))
	checkWhole(t, headed("<!ATTLIST a k CDATA '&none;'>", "<b/>"), start("b"), end("b"))
	// An entity may stand behind the value that refers to it.
	checkWhole(t, headed("<!ATTLIST a k CDATA '&e;'>"+ent("e", "E"), "<a/>"), start("a", "k", "E"), end("a"))
	// Without a head nothing stands behind them.
	checkWhole(t, "<!DOCTYPE a><a k='1'/>", start("a", "k", "1"), end("a"))
	// Forty of them stand in the order of the head.
	var attrs []string
	for n := range 40 {
		attrs = append(attrs, "k"+strconv.Itoa(n), strconv.Itoa(n))
	}
	checkWhole(t, headed("<!ATTLIST a"+numbered(" k$ CDATA '$'", 0, 40)+">", "<a/>"), start("a", attrs...), end("a"))
}
