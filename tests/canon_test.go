package tests

import (
	"slices"
	"strconv"
	"strings"
	"testing"

	"loop.example/g00352/impl"
)

func checkEscapes(t *testing.T, text string, wantText string, wantValue string) {
	t.Helper()
	if got := impl.EscapeText(text); got != wantText {
		t.Errorf("EscapeText of %.100q (%d bytes): got %.200q (%d bytes), want %.200q", text, len(text), got, len(got), wantText)
	}
	if got := impl.EscapeValue(text); got != wantValue {
		t.Errorf("EscapeValue of %.100q (%d bytes): got %.200q (%d bytes), want %.200q", text, len(text), got, len(got), wantValue)
	}
}

// What stands for each sign in a text and in a value.
var escapes = []struct {
	sign  string
	text  string
	value string
}{
	{"&", "&amp;", "&amp;"}, {"<", "&lt;", "&lt;"}, {">", "&gt;", ">"}, {"\"", "\"", "&quot;"}, {"\t", "\t", "&#x9;"}, {"\n", "\n", "&#xA;"}, {"\r", "&#xD;", "&#xD;"},
}

func TestEscapes(t *testing.T) {
	checkEscapes(t, "", "", "")
	for _, e := range escapes {
		checkEscapes(t, e.sign, e.text, e.value)
		checkEscapes(t, e.sign+e.sign, e.text+e.text, e.value+e.value)
		for _, beside := range []string{"a", "\u00e9", "\U0001F600", ";", "amp;", "\xff", "\x00", " "} {
			checkEscapes(t, e.sign+beside, e.text+beside, e.value+beside)
			checkEscapes(t, beside+e.sign, beside+e.text, beside+e.value)
			checkEscapes(t, beside+e.sign+e.sign+beside, beside+e.text+e.text+beside, beside+e.value+e.value+beside)
		}
		for _, other := range escapes {
			checkEscapes(t, e.sign+other.sign, e.text+other.text, e.value+other.value)
		}
	}
	for _, text := range []string{"a", "'", " ", "a b", "\u00e9\u20ac\U0001F600", "]]", ";", "#xD;", "\x00\x01\x0b\x1f\x7f", "\x80", "\xff\xfe", "\xe2\x82", "\xc0\xbc", "\u00a0", "\u0085", "\u2028"} {
		checkEscapes(t, text, text, text)
	}
	checkEscapes(t, "\r\n", "&#xD;\n", "&#xD;&#xA;")
	checkEscapes(t, "]]>", "]]&gt;", "]]>")
	checkEscapes(t, "&amp;&lt;&#xD;", "&amp;amp;&amp;lt;&amp;#xD;", "&amp;amp;&amp;lt;&amp;#xD;")
	checkEscapes(t, "<!--&-->", "&lt;!--&amp;--&gt;", "&lt;!--&amp;-->")
	checkEscapes(t, "\xe2<\x82&\xac", "\xe2&lt;\x82&amp;\xac", "\xe2&lt;\x82&amp;\xac")
}

func TestEveryByteEscaped(t *testing.T) {
	for b := range 256 {
		text := string([]byte{'x', byte(b), 'y'})
		checkEscapes(t, text, textSigns.Replace(text), valueSigns.Replace(text))
	}
}

func TestEscapesOfLongTexts(t *testing.T) {
	for _, sign := range []string{"a", "&", "<", ">", "\"", "\n", "\r", "\xff", "\u00e9", "\U0001F600"} {
		text := strings.Repeat(sign, 4000/len(sign))
		checkEscapes(t, text[len(sign):], textSigns.Replace(text[len(sign):]), valueSigns.Replace(text[len(sign):]))
		checkEscapes(t, text, textSigns.Replace(text), valueSigns.Replace(text))
		checkEscapes(t, text+"a", "", "")
		checkEscapes(t, "&"+text, "", "")
		checkEscapes(t, text+text, "", "")
	}
	checkEscapes(t, strings.Repeat("&", 4000), strings.Repeat("&amp;", 4000), strings.Repeat("&amp;", 4000))
	if got := len(impl.EscapeValue(strings.Repeat("\"", 4000))); got != 24000 {
		t.Errorf("EscapeValue of 4000 bytes: got %d bytes", got)
	}
}

// Promise 9: what is escaped is read back.
func TestWhatIsEscapedIsReadBack(t *testing.T) {
	everyText("", []string{"&", "<", ">", "\"", "'", "\t", "\n", "\r", " ", "a", "\u00e9", "]]>", "&lt;", "&#13;", "\xff"}, 4, func(text string) {
		asText, asValue := impl.EscapeText(text), impl.EscapeValue(text)
		if asText != textSigns.Replace(text) || asValue != valueSigns.Replace(text) {
			t.Fatalf("the escapes of %q: got %q, %q", text, asText, asValue)
		}
		if strings.Contains(text, "\xff") {
			return
		}
		whole := "<a k=\"" + asValue + "\">" + asText + "</a>"
		want := joined(events(start("a", "k", text), words(text), end("a")))
		if got := impl.Read(whole, true); !sameEvents(got, impl.EventsOut{Events: want, At: int64(len(whole))}) {
			t.Fatalf("%q is read back of %q as %+v", text, whole, got)
		}
	})
}

// checkCanon: the form of a document with and without comments; each is its own form.
func checkCanon(t *testing.T, text string, kept []string, with string, without string) {
	t.Helper()
	for _, comments := range []bool{true, false} {
		want := impl.CanonOut{Text: without}
		if comments {
			want.Text = with
		}
		got := impl.Canon(text, kept, comments)
		if got != want {
			t.Errorf("Canon of %.300q (%d bytes), %.300q, %v:\n got %.600q, %d, %d\nwant %.600q", text, len(text), kept, comments, got.Text, got.At, got.Code, want.Text)
			continue
		}
		checkForm(t, text, kept, comments, want.Text)
	}
}

// checkSame: a document without comments.
func checkSame(t *testing.T, text string, kept []string, form string) {
	t.Helper()
	checkCanon(t, text, kept, form, form)
}

func checkRefused(t *testing.T, text string, kept []string, at int64, code int64) {
	t.Helper()
	for _, comments := range []bool{true, false} {
		got := impl.Canon(text, kept, comments)
		if got != (impl.CanonOut{At: at, Code: code}) {
			t.Errorf("Canon of %.300q (%d bytes), %.300q (%d), %v: got %.300q, %d, %d, want %d, %d", text, len(text), kept, len(kept), comments, got.Text, got.At, got.Code, at, code)
		}
	}
}

func TestCanonDocuments(t *testing.T) {
	for text, form := range map[string]string{
		"<a/>":                        "<a></a>",
		"<a></a>":                     "<a></a>",
		"<a\n></a >":                  "<a></a>",
		"\n<a/>\n\t ":                 "<a></a>",
		firstLine + "<a/>":            "<a></a>",
		encodedLine + "\r\n<a/>\r\n":  "<a></a>",
		"<!DOCTYPE a>\n<a>\n</a>":     "<a>\n</a>",
		"<a>\r\n\t x \r</a>":          "<a>\n\t x \n</a>",
		"<a><b/>x<b>y</b><c/></a>":    "<a><b></b>x<b>y</b><c></c></a>",
		"<a k='1' b = \"2\"\nc=''/>":  "<a b=\"2\" c=\"\" k=\"1\"></a>",
		"<a k='\"'/>":                 "<a k=\"&quot;\"></a>",
		"<a k=\"'>\t\n\"/>":           "<a k=\"'>  \"></a>",
		"<a>\"'></a>":                 "<a>\"'&gt;</a>",
		"<\u00e9>\u20ac</\u00e9>":     "<\u00e9>\u20ac</\u00e9>",
		"<" + longest + "/>":          "<" + longest + "></" + longest + ">",
		"<a><?p?><?q r?></a>":         "<a><?p?><?q r?></a>",
		"<a><b><?p?></b><?q r?>x</a>": "<a><b><?p?></b><?q r?>x</a>",
	} {
		checkSame(t, text, nil, form)
		checkSame(t, text, []string{}, form)
	}
}

func TestCanonReferences(t *testing.T) {
	for text, form := range map[string]string{
		"&lt;&gt;&amp;&apos;&quot;":      "&lt;&gt;&amp;'\"",
		"&#60;&#x3e;&#38;":               "&lt;&gt;&amp;",
		"&#9;&#10;&#13;&#32;":            "\t\n&#xD; ",
		"&#13;\r\n":                      "&#xD;\n",
		"&#x20AC;\u00e9&#65;":            "\u20ac\u00e9A",
		"<![CDATA[<b>&amp;]]>":           "&lt;b&gt;&amp;amp;",
		"<![CDATA[]]>":                   "",
		"x<![CDATA[>]]>y<![CDATA[]]]]>z": "x&gt;y]]z",
		"]]<![CDATA[>]]>":                "]]&gt;",
		"&amp;lt;":                       "&amp;lt;",
	} {
		checkSame(t, "<a>"+text+"</a>", nil, "<a>"+form+"</a>")
	}
	for value, form := range map[string]string{
		"&lt;&gt;&amp;&apos;&quot;": "&lt;>&amp;'&quot;",
		"&#9;&#10;&#13;&#32;":       "&#x9;&#xA;&#xD; ",
		"\t\n\r\n\r ":               "     ",
		"&#x20AC;\u00e9&#65;":       "\u20ac\u00e9A",
		"&amp;lt;":                  "&amp;lt;",
	} {
		checkSame(t, "<a k='"+value+"'/>", nil, "<a k=\""+form+"\"></a>")
		checkSame(t, "<a xmlns='u"+value+"'/>", nil, "<a xmlns=\"u"+form+"\"></a>")
		checkSame(t, "<a xmlns:p='u"+value+"' p:k=''/>", nil, "<a xmlns:p=\"u"+form+"\" p:k=\"\"></a>")
	}
}

// What a head tells stands in the form, the head itself does not.
func TestCanonHeads(t *testing.T) {
	head := ent("e", "<b/>x") + ent("f", "&e;&#38;lt;") + ent("g", " '\t\n") + "<!--c--><?p?><!ATTLIST a i ID ' 1  2 ' d CDATA '&g;'><!ATTLIST b xmlns CDATA 'u'><!ATTLIST c xmlns:p CDATA 'v' p:k CDATA 'w'>"
	checkSame(t, headed(head, "<a/>"), nil, "<a d=\" '  \" i=\"1 2\"></a>")
	checkSame(t, headed(head, "<a d='' i='\n3\n'/>"), nil, "<a d=\"\" i=\"3\"></a>")
	checkSame(t, headed(head, "<a d='&g;' z=''>&e;y</a>"), nil, "<a d=\" '  \" i=\"1 2\" z=\"\"><b xmlns=\"u\"></b>xy</a>")
	checkSame(t, headed(head, "<d>&f;&e;</d>"), nil, "<d><b xmlns=\"u\"></b>x&lt;<b xmlns=\"u\"></b>x</d>")
	checkSame(t, headed(head, "<b><b><d xmlns='u'/></b><b xmlns=''/></b>"), nil, "<b xmlns=\"u\"><b><d></d></b><b xmlns=\"\"></b></b>")
	checkSame(t, headed(head, "<c/>"), nil, "<c xmlns:p=\"v\" p:k=\"w\"></c>")
	checkSame(t, headed(head, "<c p:k='1'><c xmlns:p='2'/></c>"), nil, "<c xmlns:p=\"v\" p:k=\"1\"><c xmlns:p=\"2\" p:k=\"w\"></c></c>")
	checkSame(t, headed(head, "<d>&g;</d>"), nil, "<d> '\t\n</d>")
	inner := ent("e", "<!--1--><?p 2?><b>3</b>")
	checkCanon(t, headed(inner, "<a>&e;&e;</a>"), nil, "<a><!--1--><?p 2?><b>3</b><!--1--><?p 2?><b>3</b></a>", "<a><?p 2?><b>3</b><?p 2?><b>3</b></a>")
}

// Ahead of the element a byte 10 stands behind each of them, behind it ahead of each, in it none.
func TestCommentsAndOrders(t *testing.T) {
	checkCanon(t, "<!--1--><a/>", nil, "<!--1-->\n<a></a>", "<a></a>")
	checkCanon(t, "<a/><!--1-->", nil, "<a></a>\n<!--1-->", "<a></a>")
	checkCanon(t, "<a><!--1--></a>", nil, "<a><!--1--></a>", "<a></a>")
	checkCanon(t, "<!----><a><!----></a><!---->", nil, "<!---->\n<a><!----></a>\n<!---->", "<a></a>")
	checkSame(t, "<?p?><a/>", nil, "<?p?>\n<a></a>")
	checkSame(t, "<a/><?p?>", nil, "<a></a>\n<?p?>")
	checkSame(t, "<?p  q r ?><a/><?p\t\nq?>", nil, "<?p q r ?>\n<a></a>\n<?p q?>")
	checkSame(t, "<?p ?><a><?p \n?></a><?p\t?>", nil, "<?p?>\n<a><?p?></a>\n<?p?>")
	checkSame(t, "<?p \" <&>' ?><a><?p \" <&>' ?></a><?p \" <&>' ?>", nil, "<?p \" <&>' ?>\n<a><?p \" <&>' ?></a>\n<?p \" <&>' ?>")
	checkCanon(t, "<!-- <&>\"' --><a><!-- <&>\"' --></a>", nil, "<!-- <&>\"' -->\n<a><!-- <&>\"' --></a>", "<a></a>")
	checkCanon(t, "<!--\r\n\t--><a><!--\r--></a>", nil, "<!--\n\t-->\n<a><!--\n--></a>", "<a></a>")
	checkSame(t, "<?p \r\nx\r\ty?><a/>", nil, "<?p x\n\ty?>\n<a></a>")
	checkSame(t, "<?xmlns xml?><?xml-x?><a/>", nil, "<?xmlns xml?>\n<?xml-x?>\n<a></a>")
	// Several, and what stands between them goes.
	checkCanon(t, firstLine+"\n<!--1-->\n\n<?p 2?><!DOCTYPE a>\n<!--3--> <a>\n<!--4--> <?q 5?>\n</a>\n\n<!--6--><?r 7?>\n<!--8-->\n", nil,
		"<!--1-->\n<?p 2?>\n<!--3-->\n<a>\n<!--4--> <?q 5?>\n</a>\n<!--6-->\n<?r 7?>\n<!--8-->", "<?p 2?>\n<a>\n <?q 5?>\n</a>\n<?r 7?>")
	checkCanon(t, "<a><b><!--1--><?p?></b><!--2--><?q?></a><!--3-->", nil, "<a><b><!--1--><?p?></b><!--2--><?q?></a>\n<!--3-->", "<a><b><?p?></b><?q?></a>")
	// Texts beside a comment that goes stand side by side.
	checkCanon(t, "<a>x<!--1-->y<!--2--></a>", nil, "<a>x<!--1-->y<!--2--></a>", "<a>xy</a>")
	checkCanon(t, "<a>]]<!--1-->></a>", nil, "<a>]]<!--1-->&gt;</a>", "<a>]]&gt;</a>")
	checkCanon(t, "<a>&#13;<!--1-->\n</a>", nil, "<a>&#xD;<!--1-->\n</a>", "<a>&#xD;\n</a>")
}

func TestWrittenDeclarations(t *testing.T) {
	for text, form := range map[string]string{
		// Of its own prefix, of its Attrs', of the empty one.
		"<p:a xmlns:p='u'/>":                                   "<p:a xmlns:p=\"u\"></p:a>",
		"<a xmlns:p='u' p:k='1'/>":                             "<a xmlns:p=\"u\" p:k=\"1\"></a>",
		"<a p:k='1' xmlns:p='u'/>":                             "<a xmlns:p=\"u\" p:k=\"1\"></a>",
		"<a xmlns='u'/>":                                       "<a xmlns=\"u\"></a>",
		"<a xmlns='u' k='1'/>":                                 "<a xmlns=\"u\" k=\"1\"></a>",
		"<p:a xmlns='v' xmlns:q='w' xmlns:p='u' q:k='1'/>":     "<p:a xmlns:p=\"u\" xmlns:q=\"w\" q:k=\"1\"></p:a>",
		"<p:a p:k='1' p:b='2' xmlns:p='u'/>":                   "<p:a xmlns:p=\"u\" p:b=\"2\" p:k=\"1\"></p:a>",
		"<a xmlns='u' xmlns:p='u' p:k='1' k='2'/>":             "<a xmlns=\"u\" xmlns:p=\"u\" k=\"2\" p:k=\"1\"></a>",
		"<a><b xmlns='u' xmlns:p='u'><p:c xmlns='v'/></b></a>": "<a><b xmlns=\"u\"><p:c xmlns:p=\"u\"></p:c></b></a>",
		// Declared, but not used; Attrs without prefix don't use the empty one.
		"<a xmlns:p='u'/>":                       "<a></a>",
		"<p:a xmlns:p='u' xmlns='v' k='1'/>":     "<p:a xmlns:p=\"u\" k=\"1\"></p:a>",
		"<a xmlns:p='u' k='p:k'>p:a</a>":         "<a k=\"p:k\">p:a</a>",
		"<p:a xmlns:p='u' xmlns=''/>":            "<p:a xmlns:p=\"u\"></p:a>",
		"<a xmlns:p='u'><b xmlns:q='u'/></a>":    "<a><b></b></a>",
		"<a xmlns:p='u'><?p?><p xmlns='u'/></a>": "<a><?p?><p xmlns=\"u\"></p></a>",
		// Used first deep within, in each element beside another anew.
		"<a xmlns:p='u'><b><c><p:d/></c></b></a>":                "<a><b><c><p:d xmlns:p=\"u\"></p:d></c></b></a>",
		"<a xmlns:p='u'><p:b><p:c p:k=''/></p:b><p:b/></a>":      "<a><p:b xmlns:p=\"u\"><p:c p:k=\"\"></p:c></p:b><p:b xmlns:p=\"u\"></p:b></a>",
		"<a xmlns:p='u'><b p:k=''/><b><p:c/></b><b p:k=''/></a>": "<a><b xmlns:p=\"u\" p:k=\"\"></b><b><p:c xmlns:p=\"u\"></p:c></b><b xmlns:p=\"u\" p:k=\"\"></b></a>",
		"<p:a xmlns:p='u' xmlns='v'><b><p:c/></b><d/></p:a>":     "<p:a xmlns:p=\"u\"><b xmlns=\"v\"><p:c></p:c></b><d xmlns=\"v\"></d></p:a>",
		// Declared again within, with the same space and with another one, and the one outside again behind that.
		"<p:a xmlns:p='u'><p:b xmlns:p='u'><p:c xmlns:p='u'/></p:b></p:a>":       "<p:a xmlns:p=\"u\"><p:b><p:c></p:c></p:b></p:a>",
		"<p:a xmlns:p='u'><p:b xmlns:p='v'/></p:a>":                              "<p:a xmlns:p=\"u\"><p:b xmlns:p=\"v\"></p:b></p:a>",
		"<p:a xmlns:p='u'><p:b xmlns:p='v'><p:c/></p:b><p:b/></p:a>":             "<p:a xmlns:p=\"u\"><p:b xmlns:p=\"v\"><p:c></p:c></p:b><p:b></p:b></p:a>",
		"<p:a xmlns:p='u'><p:b xmlns:p='v'><p:c xmlns:p='u'/><p:c/></p:b></p:a>": "<p:a xmlns:p=\"u\"><p:b xmlns:p=\"v\"><p:c xmlns:p=\"u\"></p:c><p:c></p:c></p:b></p:a>",
		"<a xmlns='u'><b xmlns='u'><c xmlns='v'/><c/></b></a>":                   "<a xmlns=\"u\"><b><c xmlns=\"v\"></c><c></c></b></a>",
		"<p:a xmlns:p='u'><b xmlns:p='v'><p:c xmlns:p='u'/></b></p:a>":           "<p:a xmlns:p=\"u\"><b><p:c></p:c></b></p:a>",
		"<p:a xmlns:p='u'><b xmlns:p='v'><p:c/><b p:k=''/></b><p:d/></p:a>":      "<p:a xmlns:p=\"u\"><b><p:c xmlns:p=\"v\"></p:c><b xmlns:p=\"v\" p:k=\"\"></b></b><p:d></p:d></p:a>",
		"<p:a xmlns:p='u'><q:a xmlns:q='u'><p:b/></q:a><q:a xmlns:q='v'/></p:a>": "<p:a xmlns:p=\"u\"><q:a xmlns:q=\"u\"><p:b></p:b></q:a><q:a xmlns:q=\"v\"></q:a></p:a>",
		// The empty prefix declared and taken back.
		"<a xmlns=''/>":                  "<a></a>",
		"<a xmlns=''><b xmlns=''/></a>":  "<a><b></b></a>",
		"<a xmlns='u'><b xmlns=''/></a>": "<a xmlns=\"u\"><b xmlns=\"\"></b></a>",
		"<a xmlns='u'><b xmlns=''><c/><d xmlns='u'/><d xmlns=''/></b><e/></a>": "<a xmlns=\"u\"><b xmlns=\"\"><c></c><d xmlns=\"u\"></d><d></d></b><e></e></a>",
		"<p:a xmlns:p='u' xmlns='v'><b xmlns=''/></p:a>":                       "<p:a xmlns:p=\"u\"><b></b></p:a>",
		"<a xmlns='u'><p:b xmlns='' xmlns:p='v'><c/></p:b></a>":                "<a xmlns=\"u\"><p:b xmlns:p=\"v\"><c xmlns=\"\"></c></p:b></a>",
		"<a xmlns='u'><p:b xmlns='' xmlns:p='v'><c xmlns='u'/></p:b></a>":      "<a xmlns=\"u\"><p:b xmlns:p=\"v\"><c></c></p:b></a>",
		"<a><b xmlns='u'><c xmlns=''/></b><d/></a>":                            "<a><b xmlns=\"u\"><c xmlns=\"\"></c></b><d></d></a>",
		// xml is never written.
		"<xml:a/>":       "<xml:a></xml:a>",
		"<a xml:k='1'/>": "<a xml:k=\"1\"></a>",
		"<xml:a xmlns:xml='" + xmlSpace + "' xml:k='1'><b xmlns:xml='" + xmlSpace + "'/></xml:a>": "<xml:a xml:k=\"1\"><b></b></xml:a>",
		"<xml xmlns='u'/>": "<xml xmlns=\"u\"></xml>",
		// Prefixes that begin alike, and capitals.
		"<a xmlns:p='u' xmlns:pp='v' xmlns:P='w'><p:b/><pp:b/><P:b/></a>": "<a><p:b xmlns:p=\"u\"></p:b><pp:b xmlns:pp=\"v\"></pp:b><P:b xmlns:P=\"w\"></P:b></a>",
		"<p:a xmlns:p='u' xmlns:pp='u'><pp:b/></p:a>":                     "<p:a xmlns:p=\"u\"><pp:b xmlns:pp=\"u\"></pp:b></p:a>",
	} {
		checkSame(t, text, nil, form)
	}
}

func TestOrderOfDeclarations(t *testing.T) {
	all := " xmlns:b='1' xmlns:c='0' xmlns:a='2' xmlns:aa='1' xmlns:B='3' xmlns:a-='1' xmlns:\u00e9='4' xmlns='5'"
	decls := " xmlns:B=\"3\" xmlns:a=\"2\" xmlns:a-=\"1\" xmlns:aa=\"1\" xmlns:b=\"1\" xmlns:c=\"0\" xmlns:\u00e9=\"4\""
	uses := " a:k='' \u00e9:k='' B:k='' c:k='' aa:m='' b:l='' a-:n=''"
	attrs := " c:k=\"\" b:l=\"\" aa:m=\"\" a-:n=\"\" a:k=\"\" B:k=\"\" \u00e9:k=\"\""
	checkSame(t, "<x"+all+uses+"/>", nil, "<x xmlns=\"5\""+decls+attrs+"></x>")
	checkSame(t, "<b:x"+all+uses+"/>", nil, "<b:x"+decls+attrs+"></b:x>")
	// Those to be kept stand among them, each once.
	kept := []string{"c", "b", "", "b", "a", "\u00e9", "aa", "c", "B", "", "a-"}
	checkSame(t, "<x"+all+"/>", kept, "<x xmlns=\"5\""+decls+"></x>")
	checkSame(t, "<b:x"+all+uses+"/>", kept, "<b:x xmlns=\"5\""+decls+attrs+"></b:x>")
}

func TestOrderOfAttrs(t *testing.T) {
	for text, form := range map[string]string{
		"<a c='' b='' aa='' a='' B='' a-='' \u00e9='' _=''/>":                                     "<a B=\"\" _=\"\" a=\"\" a-=\"\" aa=\"\" b=\"\" c=\"\" \u00e9=\"\"></a>",
		"<a xmlns:a='z' xmlns:z='b' a:k='1' z:k='2' k='3' b='4' a:b='5' z:b='6' xml:k='7'/>":      "<a xmlns:a=\"z\" xmlns:z=\"b\" b=\"4\" k=\"3\" z:b=\"6\" z:k=\"2\" xml:k=\"7\" a:b=\"5\" a:k=\"1\"></a>",
		"<a xmlns:p='u' xmlns:q='u' q:a='1' p:b='2' q:c='3' p:d='4'/>":                            "<a xmlns:p=\"u\" xmlns:q=\"u\" q:a=\"1\" p:b=\"2\" q:c=\"3\" p:d=\"4\"></a>",
		"<a xmlns:p='ub' xmlns:q='u' xmlns:r='u ' xmlns:s='U' p:k='' q:k='' r:k='' s:k='' z=''/>": "<a xmlns:p=\"ub\" xmlns:q=\"u\" xmlns:r=\"u \" xmlns:s=\"U\" z=\"\" s:k=\"\" q:k=\"\" r:k=\"\" p:k=\"\"></a>",
		// As they are, not as they are written.
		"<a xmlns:p='&amp;' xmlns:q='\"' xmlns:r='&lt;' xmlns:s='&#10;' p:k='' q:k='' r:k='' s:k=''/>": "<a xmlns:p=\"&amp;\" xmlns:q=\"&quot;\" xmlns:r=\"&lt;\" xmlns:s=\"&#xA;\" s:k=\"\" q:k=\"\" p:k=\"\" r:k=\"\"></a>",
		// The space of the element is not that of Attrs without prefix.
		"<a xmlns='a' xmlns:p='a' xmlns:q='0' p:b='1' q:b='2' c='3' b='4'/>": "<a xmlns=\"a\" xmlns:p=\"a\" xmlns:q=\"0\" b=\"4\" c=\"3\" q:b=\"2\" p:b=\"1\"></a>",
		// A Space and a Local are two things.
		"<a xmlns:p='u' xmlns:q='uk' p:kz='1' q:a='2'/>": "<a xmlns:p=\"u\" xmlns:q=\"uk\" p:kz=\"1\" q:a=\"2\"></a>",
		// What is declared around it counts too.
		"<a xmlns:p='2' xmlns:q='1'><b p:k='' q:k=''><b xmlns:p='0' p:k='' q:k=''/></b></a>": "<a><b xmlns:p=\"2\" xmlns:q=\"1\" q:k=\"\" p:k=\"\"><b xmlns:p=\"0\" p:k=\"\" q:k=\"\"></b></b></a>",
	} {
		checkSame(t, text, nil, form)
	}
}

func TestKeptPrefixes(t *testing.T) {
	for _, c := range []struct {
		text string
		kept []string
		form string
	}{
		{"<a xmlns:p='u'/>", []string{"p"}, "<a xmlns:p=\"u\"></a>"},
		{"<a xmlns:p='u' xmlns:q='v'/>", []string{"q"}, "<a xmlns:q=\"v\"></a>"},
		{"<a xmlns:p='u'/>", []string{"q"}, "<a></a>"},
		{"<a xmlns:p='u'/>", []string{"P", "pp", "u"}, "<a></a>"},
		{"<a/>", []string{"p", "", "xml", "xmlns", longest}, "<a></a>"},
		{"<a xmlns:p='u'><b><c/></b></a>", []string{"p"}, "<a xmlns:p=\"u\"><b><c></c></b></a>"},
		{"<a><b xmlns:p='u'><c/></b><c/></a>", []string{"p"}, "<a><b xmlns:p=\"u\"><c></c></b><c></c></a>"},
		{"<a xmlns:p='u'><b xmlns:p='v'><c/></b><b xmlns:p='u'/></a>", []string{"p"}, "<a xmlns:p=\"u\"><b xmlns:p=\"v\"><c></c></b><b></b></a>"},
		{"<a xmlns:p='u'><b xmlns:p='v'><c xmlns:p='u'/></b></a>", []string{"p"}, "<a xmlns:p=\"u\"><b xmlns:p=\"v\"><c xmlns:p=\"u\"></c></b></a>"},
		{"<p:a xmlns:p='u' p:k=''/>", []string{"p"}, "<p:a xmlns:p=\"u\" p:k=\"\"></p:a>"},
		{"<p:a xmlns:p='u' xmlns:q='v'><q:b/></p:a>", []string{"q"}, "<p:a xmlns:p=\"u\" xmlns:q=\"v\"><q:b></q:b></p:a>"},
		// The empty text is the empty prefix: just with a space that is not empty.
		{"<p:a xmlns:p='u' xmlns='v'/>", []string{""}, "<p:a xmlns=\"v\" xmlns:p=\"u\"></p:a>"},
		{"<p:a xmlns:p='u' xmlns=''/>", []string{""}, "<p:a xmlns:p=\"u\"></p:a>"},
		{"<p:a xmlns:p='u'/>", []string{""}, "<p:a xmlns:p=\"u\"></p:a>"},
		{"<a xmlns='u'/>", []string{""}, "<a xmlns=\"u\"></a>"},
		{"<p:a xmlns:p='u' xmlns='v'><b xmlns=''/></p:a>", []string{""}, "<p:a xmlns=\"v\" xmlns:p=\"u\"><b xmlns=\"\"></b></p:a>"},
		{"<p:a xmlns:p='u' xmlns='v'><p:b xmlns=''><c/></p:b></p:a>", []string{""}, "<p:a xmlns=\"v\" xmlns:p=\"u\"><p:b><c xmlns=\"\"></c></p:b></p:a>"},
		{"<p:a xmlns:p='u' xmlns='v'><p:b xmlns=''><p:c xmlns='v'/><p:c xmlns='w'/></p:b></p:a>", []string{""}, "<p:a xmlns=\"v\" xmlns:p=\"u\"><p:b><p:c></p:c><p:c xmlns=\"w\"></p:c></p:b></p:a>"},
		{"<a xmlns:p='u' xmlns='v'/>", []string{"p"}, "<a xmlns=\"v\" xmlns:p=\"u\"></a>"},
		// xml is not written, xmlns has no space.
		{"<a xml:k='1'/>", []string{"xml"}, "<a xml:k=\"1\"></a>"},
		{"<a xmlns:xml='" + xmlSpace + "'/>", []string{"xml"}, "<a></a>"},
		{"<a xmlns='u'/>", []string{"xmlns"}, "<a xmlns=\"u\"></a>"},
		{"<a xmlns:p='u'/>", []string{"xmlns", "xml", "p"}, "<a xmlns:p=\"u\"></a>"},
		// Twice, and in any order.
		{"<a xmlns:p='u' xmlns:q='v'/>", []string{"p", "p"}, "<a xmlns:p=\"u\"></a>"},
		{"<a xmlns:p='u' xmlns:q='v' xmlns='w'/>", []string{"q", "", "p", "", "q"}, "<a xmlns=\"w\" xmlns:p=\"u\" xmlns:q=\"v\"></a>"},
		{"<p:a xmlns:p='u' xmlns:q='v' q:k=''/>", []string{"q", "p"}, "<p:a xmlns:p=\"u\" xmlns:q=\"v\" q:k=\"\"></p:a>"},
		{"<a xmlns:\u00e9='u' xmlns:z.-1='v'/>", []string{"\u00e9", "z.-1"}, "<a xmlns:z.-1=\"v\" xmlns:\u00e9=\"u\"></a>"},
		// The space is escaped.
		{"<a xmlns:p='&#13;&amp;&lt;\">'/>", []string{"p"}, "<a xmlns:p=\"&#xD;&amp;&lt;&quot;>\"></a>"},
		{headed("<!ATTLIST a xmlns:p CDATA 'u'>", "<a/>"), []string{"p"}, "<a xmlns:p=\"u\"></a>"},
	} {
		checkSame(t, c.text, c.kept, c.form)
		back := slices.Clone(c.kept)
		slices.Reverse(back)
		checkSame(t, c.text, back, c.form)
		checkSame(t, c.text, append(back, c.kept...), c.form)
	}
	checkCanon(t, "<!--1--><a xmlns:p='u'><!--2--></a>", []string{"p"}, "<!--1-->\n<a xmlns:p=\"u\"><!--2--></a>", "<a xmlns:p=\"u\"></a>")
}

// manyPrefixes: so many, each another one.
func manyPrefixes(most int) []string {
	var l []string
	for i := range most {
		l = append(l, "p"+strconv.Itoa(i))
	}
	return l
}

func TestManyKeptPrefixes(t *testing.T) {
	text, form := "<a xmlns:p0='u' xmlns:p399='v' xmlns:p400='w' xmlns='x'/>", "<a xmlns=\"x\" xmlns:p0=\"u\" xmlns:p399=\"v\"></a>"
	checkSame(t, text, manyPrefixes(400), form)
	checkRefused(t, text, manyPrefixes(401), 0, impl.ErrSize)
	checkSame(t, text, make([]string, 400), "<a xmlns=\"x\"></a>")
	checkRefused(t, text, make([]string, 401), 0, impl.ErrSize)
	checkRefused(t, text, make([]string, 5000), 0, impl.ErrSize)
	checkRefused(t, text, slices.Repeat([]string{"p0"}, 401), 0, impl.ErrSize)
}

func TestWrongPrefixes(t *testing.T) {
	for _, wrong := range []string{
		":", "a:", ":a", "a:b", "p:p", "xmlns:p", "::", "1", "-", ".a", "a b", " ", " a", "a ", "\n", "a\n", "<", "&", "a=b", "\x00", "\xff", "a\xff", "\xc3", "\u00d7", "\u0300", longest + "n", longest[:59] + "\u00e9", strings.Repeat("a", 4000), strings.Repeat("a", 4001), strings.Repeat(":", 5000),
	} {
		for _, text := range []string{"<a/>", "<a xmlns:p='u' p:k=''/>", "", "<a>", "x", "<p:a/>", "<a>\xff</a>", strings.Repeat("x", 4000)} {
			checkRefused(t, text, []string{wrong}, 0, impl.ErrForm)
			checkRefused(t, text, []string{"p", "", wrong}, 0, impl.ErrForm)
			checkRefused(t, text, []string{wrong, "p", "xml"}, 0, impl.ErrForm)
			checkRefused(t, text, append(manyPrefixes(399), wrong), 0, impl.ErrForm)
			checkRefused(t, text, append(manyPrefixes(400), wrong), 0, impl.ErrSize)
		}
	}
	for _, right := range []string{"", "a", "_", "a1", "x.y-z", "\u00e9", "xml", "xmlns", "XML", "\U00010000", longest, strings.Repeat("\u3042", 20)} {
		checkSame(t, "<a/>", []string{right}, "<a></a>")
	}
}

func TestCodesOfRead(t *testing.T) {
	for _, c := range []struct {
		text string
		at   int64
		code int64
	}{
		{"", 0, impl.ErrSyntax}, {" \n", 2, impl.ErrSyntax}, {"\r\n\r\n", 2, impl.ErrSyntax}, {"x", 0, impl.ErrSyntax}, {"<a>", 3, impl.ErrSyntax}, {"<a>x", 4, impl.ErrSyntax}, {"<a><b></a>", 6, impl.ErrSyntax}, {"<a/><b/>", 4, impl.ErrSyntax},
		{"<!--1-->", 8, impl.ErrSyntax}, {"<a/><!--", 4, impl.ErrSyntax}, {"<a>\r\n<b>x\r\n</a>", 9, impl.ErrSyntax}, {"<a>]]></a>", 3, impl.ErrSyntax}, {"<?xml?><a/>", 0, impl.ErrSyntax}, {"<a/><?xml?>", 4, impl.ErrSyntax}, {"<!DOCTYPE a [x]><a/>", 0, impl.ErrSyntax}, {"\n<!DOCTYPE a [x]><a/>", 1, impl.ErrSyntax},
		{firstLine, 21, impl.ErrSyntax}, {firstLine[:7], 0, impl.ErrSyntax},
		{"\xff", 0, impl.ErrForm}, {"<a>\xc3</a>", 0, impl.ErrForm}, {"<a>\x00</a>", 0, impl.ErrForm},
		{headed(ent("e", "&#13;"), "<a>&e;</a>"), 37, impl.ErrForm},
		{"<a>&x;</a>", 3, impl.ErrNone}, {"<a><b k='&x;'/></a>", 3, impl.ErrNone},
		{headed(ent("e", "&e;"), "<a>x&e;</a>"), 35, impl.ErrLoop},
		{"<a><b k='' k=''/></a>", 3, impl.ErrThere},
		{"<p:a xmlns:p='u' xmlns:p='u'/>", 0, impl.ErrThere},
		{nested(30, "<b/>"), 90, impl.ErrDeep},
		{headed(numbered("<!ENTITY e$ ''>", 0, 41), "<a/>"), 0, impl.ErrFull},
		{headed(ent("e", strings.Repeat("x", 2001)), "<a>&e;<b k='&e;'/></a>"), 2036, impl.ErrFull},
	} {
		read := impl.Read(c.text, true)
		if read.At != c.at || read.Code != c.code {
			t.Errorf("Read of %.300q: got %d, %d", c.text, read.At, read.Code)
		}
		checkRefused(t, c.text, nil, c.at, c.code)
		checkRefused(t, c.text, []string{"p", "", "xml"}, c.at, c.code)
	}
	for _, text := range []string{strings.Repeat("x", 4001), "<a>" + strings.Repeat("x", 3994) + "</a>", "<a/>" + strings.Repeat("\r\n", 1999), strings.Repeat("\xff", 4001)} {
		checkRefused(t, text, nil, 0, impl.ErrSize)
	}
}

// manyText: an element with so many attributes.
func manyText(most int) string {
	return rawText(alone("a", manyAttrs("k", most, "")...))
}

func TestCodesOfSpaced(t *testing.T) {
	for _, c := range []struct {
		text string
		at   int64
		code int64
	}{
		{"<a:b:c/>", 0, impl.ErrSyntax}, {"<:a/>", 0, impl.ErrSyntax}, {"<a a:=''/>", 0, impl.ErrSyntax}, {"<xmlns:a/>", 0, impl.ErrSyntax}, {"<a>x<b xmlns:p=''/></a>", 2, impl.ErrSyntax}, {"<a xmlns:xml='u'/>", 0, impl.ErrSyntax}, {"<a xmlns='" + xmlSpace + "'/>", 0, impl.ErrSyntax}, {"<a xmlns:xmlns='u'/>", 0, impl.ErrSyntax}, {"<a xmlns:p='" + xmlnsSpace + "'/>", 0, impl.ErrSyntax},
		{"<?p:q?><a/>", 0, impl.ErrSyntax}, {"<a><b/><?p:q?></a>", 3, impl.ErrSyntax}, {"<!--1--><a/><?p:q?>", 3, impl.ErrSyntax},
		{"<p:a/>", 0, impl.ErrNone}, {"<!--1--><a><b/>x<b p:k=''/></a>", 5, impl.ErrNone}, {"<a><p:b xmlns:p='u'/><p:b/></a>", 3, impl.ErrNone},
		{"<a><b xmlns:p='u' xmlns:q='u' p:k='' q:k=''/></a>", 1, impl.ErrThere},
		{manyText(61), 0, impl.ErrForm}, {"<b><p:c/>" + manyText(61) + "</b>", 0, impl.ErrForm},
		{"<a>" + strings.Repeat("<b/>", 200) + "</a>", 0, impl.ErrSize}, {"<a><p:b/>" + strings.Repeat("<b/>", 199) + "</a>", 0, impl.ErrSize}, {"<a/>" + strings.Repeat("<!---->", 399), 0, impl.ErrSize},
	} {
		spaced := impl.Spaced(impl.Read(c.text, true).Events)
		if spaced.At != c.at || spaced.Code != c.code {
			t.Errorf("Spaced of %.300q: got %d, %d", c.text, spaced.At, spaced.Code)
		}
		checkRefused(t, c.text, nil, c.at, c.code)
		checkRefused(t, c.text, []string{"p", "", "xml"}, c.at, c.code)
	}
	// As much as it takes.
	checkSame(t, "<a>"+strings.Repeat("<b/>", 199)+"</a>", nil, "<a>"+strings.Repeat("<b></b>", 199)+"</a>")
	checkCanon(t, "<a/>"+strings.Repeat("<!---->", 398), nil, "<a></a>"+strings.Repeat("\n<!---->", 398), "<a></a>")
	checkSame(t, nested(30, "x"), nil, nested(30, "x"))
	if got := impl.Canon(manyText(60), nil, true); got.Code != impl.OK || strings.Count(got.Text, "=\"\"") != 60 {
		t.Errorf("60 attributes: got %+v", got)
	}
}

// An element of a form may have more than 60 attributes, as no sentence refuses that.
func TestManyDeclarationsAreWritten(t *testing.T) {
	text, form := "<a"+numbered(" xmlns:p$='u$'", 10, 60)+"><b"+numbered(" p$:k=''", 10, 60)+"/></a>", "<a><b"+numbered(" xmlns:p$=\"u$\"", 10, 60)+numbered(" p$:k=\"\"", 10, 60)+"></b></a>"
	if got := impl.Canon(text, nil, true); got != (impl.CanonOut{Text: form}) {
		t.Errorf("Canon of %q: got %+v", text, got)
	}
}

// checkFull: a form that grows with the size of a text in it, up to 4000 bytes and further.
func checkFull(t *testing.T, what string, kept []string, document func(text string) string) {
	t.Helper()
	empty := impl.Canon(document(""), kept, true)
	if empty.Code != impl.OK {
		t.Errorf("%s: got %+v", what, empty)
	}
	room := 4000 - len(empty.Text)
	full := document(strings.Repeat("x", room))
	got := impl.Canon(full, kept, true)
	if got.Code != impl.OK || len(got.Text) != 4000 {
		t.Errorf("%s: a form of 4000 bytes: got %d bytes, %d, %d (of %d)", what, len(got.Text), got.At, got.Code, len(full))
	}
	for _, more := range []int{1, 2} {
		over := document(strings.Repeat("x", room+more))
		if got := impl.Canon(over, kept, true); got != (impl.CanonOut{Code: impl.ErrFull}) || len(over) > 4000 {
			t.Errorf("%s: a form of %d bytes: got %d bytes, %d, %d (of %d)", what, 4000+more, len(got.Text), got.At, got.Code, len(over))
		}
	}
}

func TestFullForms(t *testing.T) {
	for what, document := range map[string]func(string) string{
		"a text":                func(x string) string { return "<a>>>" + x + "</a>" },
		"a text beside another": func(x string) string { return "<a>>>" + x[:len(x)/2] + "<b/>" + x[len(x)/2:] + "</a>" },
		"a value":               func(x string) string { return "<a k='\"" + x + "'/>" },
		"a comment":             func(x string) string { return "<!--" + x + "--><a/>" },
		"an order":              func(x string) string { return "<a/><?p y" + x + "?>" },
		"a space":               func(x string) string { return "<p:a xmlns:p='u" + x + "'/>" },
		"an end":                func(x string) string { return "<a>" + x + strings.Repeat("<bbbbbb/>", 8) + "</a>" },
		"of a head": func(x string) string {
			return headed("<!ATTLIST b k CDATA '"+strings.Repeat("y", 900)+"'>", "<a><b/><b/><b/>"+x+"</a>")
		},
		"of an entity": func(x string) string { return headed(ent("e", strings.Repeat("y", 900)), "<a>&e;&e;&e;"+x+"</a>") },
		"of its value": func(x string) string { return headed(ent("e", strings.Repeat("y", 900)), "<a k='&e;&e;&e;"+x+"'/>") },
		"written again": func(x string) string {
			return "<a xmlns:p='" + strings.Repeat("y", 900) + "'><p:b/><p:b/><p:b/>" + x + "</a>"
		},
	} {
		checkFull(t, what, nil, document)
	}
	checkFull(t, "to be kept", []string{"p"}, func(x string) string { return "<a xmlns:p='u" + x + "'><b/></a>" })
	// The bytes count, not the characters.
	checkSame(t, "<a>>"+strings.Repeat("\u00e9", 1994)+"y</a>", nil, "<a>&gt;"+strings.Repeat("\u00e9", 1994)+"y</a>")
	checkRefused(t, "<a>>"+strings.Repeat("\u00e9", 1995)+"</a>", nil, 0, impl.ErrFull)
	// A comment that is not written does not fill it, nor what is declared and not written.
	checkCanonOnly(t, "<!--"+strings.Repeat("x", 3988)+"--><a/>", nil, false, impl.CanonOut{Text: "<a></a>"})
	checkCanonOnly(t, "<!--"+strings.Repeat("x", 3988)+"--><a/>", nil, true, impl.CanonOut{Code: impl.ErrFull})
	far := "<a xmlns:p='" + strings.Repeat("\"", 3000) + "'/>"
	checkCanonOnly(t, far, nil, true, impl.CanonOut{Text: "<a></a>"})
	checkCanonOnly(t, far, []string{"q"}, true, impl.CanonOut{Text: "<a></a>"})
	checkCanonOnly(t, far, []string{"p"}, true, impl.CanonOut{Code: impl.ErrFull})
}

func checkCanonOnly(t *testing.T, text string, kept []string, comments bool, want impl.CanonOut) {
	t.Helper()
	if got := impl.Canon(text, kept, comments); got != want {
		t.Errorf("Canon of %.300q (%d bytes), %q, %v: got %.300q, %d, %d, want %.300q, %d, %d", text, len(text), kept, comments, got.Text, got.At, got.Code, want.Text, want.At, want.Code)
	}
}

// By references a node may have more than 4000 bytes: the form is full then, and never without them.
func TestNodesOfMoreThan4000Bytes(t *testing.T) {
	head := ent("e", strings.Repeat("x", 1000))
	four := "&e;&e;&e;&e;"
	for size := range 12 {
		more := strings.Repeat("y", size)
		for _, text := range []string{"<a>" + four + more + "</a>", "<a k='" + four + more + "'/>", "<a xmlns='" + four + more + "'/>", "<p:a xmlns:p='" + four + more + "'/>", "<a>z<b>" + four + more + "</b></a>"} {
			if read := impl.Read(headed(head, text), true); read.Code != impl.OK {
				t.Errorf("Read of %.200q: got %d, %d", text, read.At, read.Code)
			}
			checkRefused(t, headed(head, text), nil, 0, impl.ErrFull)
		}
		unused := headed(head, "<a xmlns:p='"+four+more+"'/>")
		checkCanonOnly(t, unused, nil, true, impl.CanonOut{Text: "<a></a>"})
		checkCanonOnly(t, unused, []string{"p"}, true, impl.CanonOut{Code: impl.ErrFull})
	}
	checkRefused(t, headed(head, "<a>"+four+strings.Repeat("y", 2000)+"</a>"), nil, 0, impl.ErrFull)
	checkRefused(t, headed("<!ATTLIST b k CDATA '"+strings.Repeat("\"", 3000)+"'>", "<a>"+strings.Repeat("<b/>", 199)+"</a>"), nil, 0, impl.ErrFull)
}

func TestCanonOrderOfFaults(t *testing.T) {
	long := strings.Repeat("x", 4001)
	wrongPrefixes, tooMany := []string{"a:b"}, append(manyPrefixes(400), "a:b")
	unread, unspaced, full := "<p:a><b></p:a>", "<a><p:b/>"+strings.Repeat(">", 1300)+"</a>", "<a>"+strings.Repeat(">", 1300)+"</a>"
	checkRefused(t, long, tooMany, 0, impl.ErrSize)
	checkRefused(t, long, wrongPrefixes, 0, impl.ErrSize)
	checkRefused(t, long, nil, 0, impl.ErrSize)
	for _, text := range []string{unread, unspaced, full, "<a/>"} {
		checkRefused(t, text, tooMany, 0, impl.ErrSize)
		checkRefused(t, text, wrongPrefixes, 0, impl.ErrForm)
	}
	// The element is not ended, and its prefix has no space.
	checkRefused(t, unread, nil, 8, impl.ErrSyntax)
	checkRefused(t, "<p:a/><b/>", nil, 6, impl.ErrSyntax)
	checkRefused(t, "<a>"+strings.Repeat(">", 1300)+"<p:b>&x;</p:b></a>", nil, 1308, impl.ErrNone)
	checkRefused(t, full+"<a/>", nil, 1307, impl.ErrSyntax)
	// The prefix has no space, and the form is full.
	checkRefused(t, unspaced, nil, 1, impl.ErrNone)
	checkRefused(t, unspaced, []string{"p"}, 1, impl.ErrNone)
	checkRefused(t, full, nil, 0, impl.ErrFull)
	checkRefused(t, "<a xmlns:p=''>"+strings.Repeat(">", 1300)+"</a>", nil, 0, impl.ErrSyntax)
}

func TestKeptPrefixesAreNotChanged(t *testing.T) {
	all := []string{"q", "p", "", "q", "xml", "b", "a", "left", "as", "they", "are"}
	want := slices.Clone(all)
	kept := all[:7]
	for _, text := range []string{"<q:a xmlns:q='1' xmlns:p='2' xmlns='3' xmlns:b='4' xmlns:a='5' b:k='' a:k=''><q:a xmlns:q='6'/></q:a>", "<a>", "<p:a/>", "<a>" + strings.Repeat(">", 1300) + "</a>"} {
		first := impl.Canon(text, kept, true)
		if !slices.Equal(all, want) {
			t.Fatalf("Canon of %q changes the list: %q", text, all)
		}
		if second := impl.Canon(text, kept, true); second != first {
			t.Errorf("Canon of %q: first %+v, then %+v", text, first, second)
		}
	}
	got := impl.Canon("<a xmlns:q='u' xmlns:p='v'/>", kept, true)
	kept[0], kept[1] = "z", "z"
	if got.Text != "<a xmlns:p=\"v\" xmlns:q=\"u\"></a>" {
		t.Errorf("the answer: %+v", got)
	}
}
