package tests

import (
	"reflect"
	"regexp"
	"slices"
	"strconv"
	"strings"
	"testing"
	"unicode/utf8"

	"loop.example/g00352/impl"
)

type toldHead struct {
	text string
	want impl.Dtd
}

func ents(l ...impl.Ent) impl.Dtd {
	return impl.Dtd{Ents: l}
}

func atts(l ...impl.Att) impl.Dtd {
	return impl.Dtd{Atts: l}
}

// Heads of one mark each: their last byte ends it.
var rightHeads = []toldHead{
	{"<!---->", impl.Dtd{}},
	{"<!-- <!ENTITY e 'x'> ]> \u20ac -->", impl.Dtd{}},
	{"<?p?>", impl.Dtd{}},
	{"<?p <!ENTITY e 'x'> ]>?>", impl.Dtd{}},
	{"<?xmlx ?>", impl.Dtd{}},
	{"<!ENTITY e 'a'>", ents(impl.Ent{Name: "e", Text: "a"})},
	{"<!ENTITY e 'b'>", ents(impl.Ent{Name: "e", Text: "b"})},
	{"<!ENTITY f ''>", ents(impl.Ent{Name: "f"})},
	{"<!ENTITY\n\tE\t \n\"a'b\" \n\t>", ents(impl.Ent{Name: "E", Text: "a'b"})},
	{"<!ENTITY g:1 '<b>\"\u20ac</b>&f;\n'>", ents(impl.Ent{Name: "g:1", Text: "<b>\"\u20ac</b>&f;\n"})},
	{"<!ENTITY lt '&#38;#60;'>", ents(impl.Ent{Name: "lt", Text: "&#60;"})},
	{"<!ENTITY \u00e9 '>-->?>]]>'>", ents(impl.Ent{Name: "\u00e9", Text: ">-->?>]]>"})},
	{"<!ENTITY ENTITY '<!ENTITY h \"1\">'>", ents(impl.Ent{Name: "ENTITY", Text: "<!ENTITY h \"1\">"})},
	{"<!ENTITY " + longest + " '&" + longest + ";'>", ents(impl.Ent{Name: longest, Text: "&" + longest + ";"})},
	{"<!ATTLIST a>", impl.Dtd{}},
	{"<!ATTLIST\n\ta \t\n>", impl.Dtd{}},
	{"<!ATTLIST a k CDATA #REQUIRED>", atts(impl.Att{Of: "a", Name: "k"})},
	{"<!ATTLIST a k ID 'x'>", atts(impl.Att{Of: "a", Name: "k", Words: true, Has: true, Value: "x"})},
	{"<!ATTLIST b k IDREF #IMPLIED >", atts(impl.Att{Of: "b", Name: "k", Words: true})},
	{"<!ATTLIST k a NMTOKEN \"'%&;>\n\">", atts(impl.Att{Of: "k", Name: "a", Words: true, Has: true, Value: "'%&;>\n"})},
	{"<!ATTLIST c k NMTOKENS #FIXED ''>", atts(impl.Att{Of: "c", Name: "k", Words: true, Has: true})},
	{"<!ATTLIST a k CDATA 'v' l ID #IMPLIED k ID 'w' m NMTOKEN #FIXED 'u'>", atts(impl.Att{Of: "a", Name: "k", Has: true, Value: "v"},
		impl.Att{Of: "a", Name: "l", Words: true}, impl.Att{Of: "a", Name: "m", Words: true, Has: true, Value: "u"})},
	{"<!ATTLIST a CDATA CDATA 'CDATA' ID\tID\n#REQUIRED\nIDREF \n IDREF\t\t#IMPLIED>", atts(impl.Att{Of: "a", Name: "CDATA", Has: true, Value: "CDATA"},
		impl.Att{Of: "a", Name: "ID", Words: true}, impl.Att{Of: "a", Name: "IDREF", Words: true})},
	{"<!ATTLIST a ab CDATA 'ab'>", atts(impl.Att{Of: "a", Name: "ab", Has: true, Value: "ab"})},
	{"<!ATTLIST aa b CDATA 'aab'>", atts(impl.Att{Of: "aa", Name: "b", Has: true, Value: "aab"})},
	{"<!ATTLIST e e CDATA '&#65;&x'>", atts(impl.Att{Of: "e", Name: "e", Has: true, Value: "&#65;&x"})},
	{"<!ATTLIST \u00e9:1 \u00c0\u00b7 CDATA '\U0001F600'>", atts(impl.Att{Of: "\u00e9:1", Name: "\u00c0\u00b7", Has: true, Value: "\U0001F600"})},
	{"<!ATTLIST " + longest + " " + longest + " CDATA #IMPLIED>", atts(impl.Att{Of: longest, Name: longest})},
	{"<!ELEMENT a (b)>", impl.Dtd{}},
	{"<!ELEMENT a >", impl.Dtd{}},
	{"<!ELEMENT\n\ta:b\t\n(#PCDATA|\u00e9)* '\"%&; -- ?>", impl.Dtd{}},
	{"<!ELEMENT " + longest + " ANY>", impl.Dtd{}},
}

// Each of these is no mark with its last character, whatever stands behind it.
var wrongHeads = []string{
	"x", "&", "%", ">", "]", "'", "\u00e9", "\u00a0", "-->", "]]>", "%p;", "&e;", "&#32;",
	"<a", "<a>", "</", "<<", "< ", "<ENTITY", "<![", "<![CDATA[x]]>", "<!DOCTYPE a>", "<!NOTATION n 'x'>",
	"<! ", "<!e", "<!entity e 'x'>", "<!Entity", "<!ENTITIES", "<!attlist", "<!element", "<!ENTITYe", "<!ENTITY'", "<!ENTITY>", "<!ATTLISTa", "<!ATTLIST>", "<!ELEMENTa", "<!ELEMENT>",
	"<!-a", "<!-- a --b", "<!-- a ---", "<!-----", "<? ", "<?1", "<?p>", "<?p??", "<?xml ", "<?xml version=\"1.0\"?>", "<?xml?", "<?XML?", "<?xMl\n", "<?" + longest + "n",
	"<!ENTITY % p 'x'>", "<!ENTITY %", "<!ENTITY 'x'", "<!ENTITY 1", "<!ENTITY >", "<!ENTITY e>", "<!ENTITY e'x'", "<!ENTITY e/", "<!ENTITY e >", "<!ENTITY e x", "<!ENTITY e SYSTEM 'x'>", "<!ENTITY e &",
	"<!ENTITY e 'x'/", "<!ENTITY e 'x'y", "<!ENTITY e 'x' y", "<!ENTITY e 'x''", "<!ENTITY e 'x' 'y'>", "<!ENTITY e 'x' NDATA n>", "<!ENTITY e 'x' <", "<!ENTITY e 'x'\u00a0",
	"<!ENTITY e '%", "<!ENTITY e \"a%b\"", "<!ENTITY e \"'%\"", "<!ENTITY " + longest + "n", "<!ENTITY " + longest[1:] + "\u00e9",
	"<!ATTLIST 1", "<!ATTLIST >", "<!ATTLIST %", "<!ATTLIST a/", "<!ATTLIST a'", "<!ATTLIST a 1", "<!ATTLIST a '", "<!ATTLIST a #", "<!ATTLIST a k>", "<!ATTLIST a k >", "<!ATTLIST a k '", "<!ATTLIST a k x ", "<!ATTLIST a k cdata ", "<!ATTLIST a k CDATA>",
	"<!ATTLIST a k CDATA >", "<!ATTLIST a k CDATA'", "<!ATTLIST a k CDATA#", "<!ATTLIST a k CDATAx ", "<!ATTLIST a k CDATA: ", "<!ATTLIST a k CDAT ", "<!ATTLIST a k ID>", "<!ATTLIST a k I ", "<!ATTLIST a k IDREFS ", "<!ATTLIST a k IDRE ", "<!ATTLIST a k NMTOKE ", "<!ATTLIST a k NMTOKENSS ",
	"<!ATTLIST a k ENTITY ", "<!ATTLIST a k ENTITIES ", "<!ATTLIST a k (", "<!ATTLIST a k NOTATION ", "<!ATTLIST a k #", "<!ATTLIST a k CDATA x", "<!ATTLIST a k CDATA &", "<!ATTLIST a k CDATA # ", "<!ATTLIST a k CDATA #required", "<!ATTLIST a k CDATA #R ", "<!ATTLIST a k CDATA #REQUIREDx",
	"<!ATTLIST a k CDATA #REQUIRED'", "<!ATTLIST a k CDATA #IMPLIED#", "<!ATTLIST a k CDATA #IMPLIED '", "<!ATTLIST a k CDATA #REQUIRED #", "<!ATTLIST a k CDATA #FIXED'", "<!ATTLIST a k CDATA #FIXED>", "<!ATTLIST a k CDATA #FIXED >", "<!ATTLIST a k CDATA #FIXED #", "<!ATTLIST a k CDATA #FIXED x", "<!ATTLIST a k CDATA #FIX ",
	"<!ATTLIST a k CDATA '<", "<!ATTLIST a k CDATA #FIXED \"'<", "<!ATTLIST a k CDATA 'x'l", "<!ATTLIST a k CDATA 'x''", "<!ATTLIST a k CDATA 'x' 'y'", "<!ATTLIST a k CDATA 'x' l>", "<!ATTLIST a k CDATA 'x'<", "<!ATTLIST a k CDATA 'x' l x ", "<!ATTLIST a k CDATA 'x'/",
	"<!ATTLIST " + longest + "n", "<!ATTLIST a " + longest + "n", "<!ATTLIST a k " + longest + "n",
	"<!ELEMENT 1", "<!ELEMENT >", "<!ELEMENT a>", "<!ELEMENT a(", "<!ELEMENT a/", "<!ELEMENT a <", "<!ELEMENT a b<", "<!ELEMENT a '<", "<!ELEMENT a <!--", "<!ELEMENT " + longest + "n",
}

func checkHead(t *testing.T, text string, want impl.DtdOut) {
	t.Helper()
	got := impl.DtdRead(text)
	if len(got.Dtd.Ents) == 0 {
		got.Dtd.Ents = nil
	}
	if len(got.Dtd.Atts) == 0 {
		got.Dtd.Atts = nil
	}
	if !reflect.DeepEqual(got, want) {
		t.Errorf("DtdRead of %.120q (%d bytes): got %+v, want %+v", text, len(text), got, want)
	}
}

// checkWrongHead: the fault is told at the mark, wherever it stands, and whatever stands behind it.
func checkWrongHead(t *testing.T, text string) {
	t.Helper()
	for _, tail := range []string{"", ">", "'>", "\">", "-->", "?>", " ", "\n<!ENTITY e 'x'>", "<a", "' x", ";'>"} {
		checkHead(t, text+tail, impl.DtdOut{Code: impl.ErrSyntax})
	}
	for _, ahead := range []string{" ", "\t\n ", "<!---->", "<!-- \u20ac --> \n", "<?p x?>", "<!ENTITY e 'x'>", "<!ATTLIST a k CDATA 'x'>\n", "<!ELEMENT a (b)>"} {
		checkHead(t, ahead+text, impl.DtdOut{At: int64(len(ahead)), Code: impl.ErrSyntax})
	}
}

// together: what two heads tell, one behind the other.
func together(first impl.Dtd, second impl.Dtd) impl.Dtd {
	var out impl.Dtd
	for _, e := range slices.Concat(first.Ents, second.Ents) {
		if !slices.ContainsFunc(out.Ents, func(o impl.Ent) bool { return o.Name == e.Name }) {
			out.Ents = append(out.Ents, e)
		}
	}
	for _, a := range slices.Concat(first.Atts, second.Atts) {
		if !slices.ContainsFunc(out.Atts, func(o impl.Att) bool { return o.Of == a.Of && o.Name == a.Name }) {
			out.Atts = append(out.Atts, a)
		}
	}
	return out
}

func TestHeads(t *testing.T) {
	checkHead(t, "", impl.DtdOut{})
	checkHead(t, " \t\n", impl.DtdOut{})
	for _, h := range rightHeads {
		for _, white := range []string{"", " ", "\n\n\t "} {
			checkHead(t, white+h.text+white, impl.DtdOut{Dtd: h.want})
		}
	}
}

// Promise 3.
func TestHeadsBehindEachOther(t *testing.T) {
	var text string
	var want impl.Dtd
	for _, first := range rightHeads {
		for _, second := range rightHeads {
			checkHead(t, first.text+second.text, impl.DtdOut{Dtd: together(first.want, second.want)})
			checkHead(t, first.text+"\n "+second.text, impl.DtdOut{Dtd: together(first.want, second.want)})
		}
		told := impl.DtdRead(text).Dtd
		text += first.text
		want = together(want, first.want)
		checkHead(t, text, impl.DtdOut{Dtd: want})
		more := impl.DtdRead(text).Dtd
		if !slices.Equal(told.Ents, more.Ents[:len(told.Ents)]) || !slices.Equal(told.Atts, more.Atts[:len(told.Atts)]) {
			t.Errorf("DtdRead of %q does not begin with %v: %v", text, told, more)
		}
	}
}

func TestFirstOfANameCounts(t *testing.T) {
	checkHead(t, "<!ENTITY e '1'><!ENTITY f '2'><!ENTITY e '3'><!ENTITY g '4'><!ENTITY f '5'>",
		impl.DtdOut{Dtd: ents(impl.Ent{Name: "e", Text: "1"}, impl.Ent{Name: "f", Text: "2"}, impl.Ent{Name: "g", Text: "4"})})
	checkHead(t, "<!ENTITY e ''><!ENTITY e '3'>", impl.DtdOut{Dtd: ents(impl.Ent{Name: "e"})})
	checkHead(t, "<!ATTLIST a k CDATA #IMPLIED k ID 'x'><!ATTLIST a k NMTOKEN 'y'><!ATTLIST b k CDATA 'z'><!ATTLIST b k CDATA 'u' l CDATA 'v'>",
		impl.DtdOut{Dtd: atts(impl.Att{Of: "a", Name: "k"}, impl.Att{Of: "b", Name: "k", Has: true, Value: "z"}, impl.Att{Of: "b", Name: "l", Has: true, Value: "v"})})
	// One of a name must be right, though it does not count.
	checkHead(t, "<!ENTITY e ''><!ENTITY e '&'>", impl.DtdOut{At: 14, Code: impl.ErrSyntax})
	checkHead(t, "<!ATTLIST a k ID #IMPLIED><!ATTLIST a k X ''>", impl.DtdOut{At: 26, Code: impl.ErrSyntax})
	// An entity and an attribute are not told apart by their names alone.
	checkHead(t, "<!ENTITY e '1'><!ATTLIST e e ID #IMPLIED><!ATTLIST a e ID #IMPLIED><!ENTITY a '2'>", impl.DtdOut{Dtd: impl.Dtd{
		Ents: []impl.Ent{{Name: "e", Text: "1"}, {Name: "a", Text: "2"}}, Atts: []impl.Att{{Of: "e", Name: "e", Words: true}, {Of: "a", Name: "e", Words: true}}}})
}

func TestHeadsCutOff(t *testing.T) {
	ahead := " <!ENTITY x '\u20ac'>\n"
	for _, h := range rightHeads {
		for size := 1; size < len(h.text); size++ {
			cut := h.text[:size]
			if !utf8.ValidString(cut) {
				checkHead(t, cut, impl.DtdOut{Code: impl.ErrForm})
				continue
			}
			checkHead(t, cut, impl.DtdOut{Code: impl.ErrSyntax})
			checkHead(t, ahead+cut, impl.DtdOut{At: int64(len(ahead)), Code: impl.ErrSyntax})
		}
	}
}

func TestWrongHeads(t *testing.T) {
	for _, text := range wrongHeads {
		checkWrongHead(t, text)
	}
	// The first that is wrong is told.
	checkHead(t, "<!ELEMENT a ANY> <a> x", impl.DtdOut{At: 17, Code: impl.ErrSyntax})
	checkHead(t, "<!ENTITY e 'x'>\n\u00e9<a", impl.DtdOut{At: 16, Code: impl.ErrSyntax})
}

var entityTexts = map[string]string{
	"":                                 "",
	"a":                                "a",
	"&#65;":                            "A",
	"&#x41;&#x5a;":                     "AZ",
	"a&#66;c":                          "aBc",
	"&#9;&#10;&#13;&#32;":              "\t\n\r ",
	"&#x9;&#xA;&#xd;&#x20;":            "\t\n\r ",
	"&#00000065;":                      "A",
	"&#x00000041;":                     "A",
	"&#01114111;&#x0010FfFf;":          "\U0010FFFF\U0010FFFF",
	"&#55295;&#57344;&#65533;&#65536;": "\ud7ff\ue000\ufffd\U00010000",
	"&#xD7FF;&#xe000;&#xfFfD;&#x1F600;&#xabc;&#xDEF;": "\ud7ff\ue000\ufffd\U0001F600\u0abc\u0def",
	"&#38;":            "&",
	"&#38;#38;":        "&#38;",
	"&#x26;lt;":        "&lt;",
	"&#38;&#38;x":      "&&x",
	"&#60;&#37;&#x3e;": "<%>",
	"&#39;&#34;":       "'\"",
	"&e;":              "&e;",
	"&lt;&amp;&x:y;":   "&lt;&amp;&x:y;",
	"&\u00e9\u00b7;a":  "&\u00e9\u00b7;a",
	"&x;&#120;&x;":     "&x;x&x;",
	"<":                "<",
	"<b k=''":          "<b k=''",
	"#;x;]]>--":        "#;x;]]>--",
	"\u20ac\U0001F600": "\u20ac\U0001F600",
	"&x41;":            "&x41;",
	"\n\t ":            "\n\t ",
}

var wrongEntityTexts = []string{
	"&", "a&", "&;", "& ", "& e;", "&e", "&e ;", "&e&f;", "&1;", "&-;", "&e'f;", "&e<;", "&e/;", "&&e;", "&" + longest + "n;", "&" + longest[1:] + "\u00e9;",
	"&#", "&#;", "&#x", "&#x;", "&# 65;", "&#65", "&#65 ;", "&#6 5;", "&#65&#66;", "&#X41;", "&#xx41;", "&#4G;", "&#x4G;", "&#4a;", "&#a;", "&#+65;", "&#-65;", "&#x-41;", "&#x+41;", "&#6_5;", "&#x4_1;", "&#0x41;", "&#\u0666;",
	"&#000000065;", "&#x000000041;", "&#4294967361;", "&#x100000041;", "&#18446744073709551681;", "&#x10000000000000041;",
	"&#0;", "&#8;", "&#11;", "&#12;", "&#14;", "&#31;", "&#x0;", "&#x1F;", "&#55296;", "&#57343;", "&#xD800;", "&#xDFFF;", "&#65534;", "&#xFFFF;", "&#1114112;", "&#x110000;", "&#99999999;", "&#xFFFFFFFF;",
	"%", "a%", "%p;", "&#37;%", "&e;%",
}

func TestEntityTexts(t *testing.T) {
	for text, want := range entityTexts {
		if !strings.Contains(text, "\"") {
			checkHead(t, "<!ENTITY e \""+text+"\">", impl.DtdOut{Dtd: ents(impl.Ent{Name: "e", Text: want})})
		}
		if !strings.Contains(text, "'") {
			checkHead(t, "<!ENTITY e '"+text+"' >", impl.DtdOut{Dtd: ents(impl.Ent{Name: "e", Text: want})})
			checkHead(t, "<!ENTITY e '"+text+text+"'>", impl.DtdOut{Dtd: ents(impl.Ent{Name: "e", Text: want + want})})
		}
	}
	for _, text := range wrongEntityTexts {
		for _, ahead := range []string{"", "x", "&#65;", "&f;", "&#38;"} {
			checkHead(t, "<!ENTITY e \""+ahead+text+"\">", impl.DtdOut{Code: impl.ErrSyntax})
			checkHead(t, "\n<!ENTITY e \""+ahead+text+"\n\">", impl.DtdOut{At: 1, Code: impl.ErrSyntax})
		}
	}
}

// Every number of a character, and the numbers beside them.
func TestEntityNumbers(t *testing.T) {
	check := func(n int64) {
		for _, number := range []string{strconv.FormatInt(n, 10), "x" + strconv.FormatInt(n, 16), "x" + strings.ToUpper(strconv.FormatInt(n, 16))} {
			want := impl.DtdOut{Code: impl.ErrSyntax}
			if inside(n, characters) {
				want = impl.DtdOut{Dtd: ents(impl.Ent{Name: "e", Text: string(rune(n))})}
			}
			checkHead(t, "<!ENTITY e '&#"+number+";'>", want)
		}
	}
	for n := int64(0); n < 0x110100; n += 97 {
		check(n)
	}
	for _, r := range characters {
		for _, n := range []int64{r.low - 1, r.low, r.high, r.high + 1} {
			check(n)
		}
	}
}

func TestTypesAndDefaults(t *testing.T) {
	types := map[string]bool{"CDATA": false, "ID": true, "IDREF": true, "NMTOKEN": true, "NMTOKENS": true}
	defaults := map[string]impl.Att{
		"#REQUIRED": {}, "#IMPLIED": {}, "''": {Has: true}, "\"\"": {Has: true}, "'a b'": {Has: true, Value: "a b"}, "\" '\n> \"": {Has: true, Value: " '\n> "},
		"#FIXED 'x'": {Has: true, Value: "x"}, "#FIXED\n\t \"#IMPLIED\"": {Has: true, Value: "#IMPLIED"}, "#FIXED ''": {Has: true}, "'&lt;%'": {Has: true, Value: "&lt;%"},
	}
	for kind, words := range types {
		for text, want := range defaults {
			want.Of, want.Name, want.Words = "a", "k", words
			for _, white := range []string{" ", "\t", "\n", " \n\t "} {
				definition := white + "k" + white + kind + white + text
				checkHead(t, "<!ATTLIST a"+definition+">", impl.DtdOut{Dtd: atts(want)})
				checkHead(t, "<!ATTLIST a"+definition+white+">", impl.DtdOut{Dtd: atts(want)})
				checkHead(t, "<!ATTLIST a j ID #REQUIRED"+definition+" l CDATA ''>", impl.DtdOut{Dtd: atts(impl.Att{Of: "a", Name: "j", Words: true}, want, impl.Att{Of: "a", Name: "l", Has: true})})
			}
			checkWrongHead(t, "<!ATTLIST a k"+kind+" "+text+">")
			checkWrongHead(t, "<!ATTLIST a k "+kind+text+">")
			checkWrongHead(t, "<!ATTLIST a "+kind+" "+text+">")
			checkWrongHead(t, "<!ATTLIST a k "+kind+" "+text+"l CDATA ''>")
			checkWrongHead(t, "<!ATTLIST ak "+kind+" "+text+">")
		}
	}
	for _, kind := range []string{"IDREFS", "ENTITY", "ENTITIES", "NOTATION", "NOTATION (n)", "(a|b)", "#PCDATA", "cdata", "Id", "CDATA ID", "CDATA,", "C", "NM", "IDs", "ID ID", "''", "x", ""} {
		for text := range defaults {
			checkWrongHead(t, "<!ATTLIST a k "+kind+" "+text+">")
			checkWrongHead(t, "<!ATTLIST a j CDATA #IMPLIED k "+kind+" "+text+">")
		}
	}
	for _, text := range []string{"#NONE", "#", "#FIXED", "#FIXED #IMPLIED", "#REQUIRED 'x'", "#IMPLIED ''", "#FIXED'x'", "'' ''", "x", "REQUIRED", "#implied", "'<'", "\"x<\"", "#FIXED '<'", "'", "'\"", ""} {
		for kind := range types {
			checkHead(t, "<!ATTLIST a k "+kind+" "+text+">", impl.DtdOut{Code: impl.ErrSyntax})
			checkHead(t, "\n<!ATTLIST a j CDATA #IMPLIED k "+kind+" "+text+" l CDATA #IMPLIED>", impl.DtdOut{At: 1, Code: impl.ErrSyntax})
		}
	}
}

// numbered: so many of a text, with a number in the place of each `$`.
func numbered(text string, from int, most int) string {
	var out strings.Builder
	for n := from; n < most; n++ {
		out.WriteString(strings.ReplaceAll(text, "$", strconv.Itoa(n)))
	}
	return out.String()
}

func TestHeadIsFull(t *testing.T) {
	ent, att, defined := "<!ENTITY e$ 'x'>", "<!ATTLIST a k$ ID ''>", " k$ ID ''"
	for _, c := range []struct {
		text string
		more string
	}{
		{numbered(ent, 0, 40), "<!ENTITY e40 ''>"},
		{numbered(att, 0, 40), "<!ATTLIST a k40 ID ''>"},
		{numbered(att, 0, 40), "<!ATTLIST b k0 ID ''>"},
		{numbered("<!ATTLIST a$ k ID ''>", 0, 40), "<!ATTLIST a0 k0 ID ''>"},
		{"<!ATTLIST a" + numbered(defined, 0, 40) + ">", "<!ATTLIST a k0 ID '' k40 ID #IMPLIED>"},
		{"<!ATTLIST a" + numbered(defined, 0, 39) + ">", "<!ATTLIST a k39 ID '' k40 ID #IMPLIED>"},
		{" <!---->", "<!ATTLIST a" + numbered(defined, 0, 41) + ">"},
		{numbered(ent, 0, 40) + numbered(att, 0, 40), "<!ENTITY e ''>"},
		{numbered(att, 0, 40) + numbered(ent, 0, 40), "<!ATTLIST a k ID #REQUIRED>"},
		{numbered(ent, 0, 40) + "\n" + numbered(ent, 0, 40), "<!ENTITY k ''>"},
	} {
		got := impl.DtdRead(c.text)
		if got.Code != impl.OK || got.At != 0 {
			t.Errorf("DtdRead of %.80q: got %d at %d", c.text, got.Code, got.At)
		}
		full := impl.DtdOut{At: int64(len(c.text)), Code: impl.ErrFull}
		checkHead(t, c.text+c.more, full)
		checkHead(t, c.text+c.more+" <!ENTITY e41 ''><!ATTLIST a k41 ID ''>\n", full)
		checkHead(t, " \n"+c.text+"<?p?>"+c.more, impl.DtdOut{At: full.At + 7, Code: impl.ErrFull})
		// A mark that is wrong is named ahead of what is full, wherever it stands.
		checkHead(t, c.text+"<a>"+c.more, impl.DtdOut{At: full.At, Code: impl.ErrSyntax})
		checkHead(t, c.text+c.more+" <a>", impl.DtdOut{At: full.At + int64(len(c.more)) + 1, Code: impl.ErrSyntax})
		checkHead(t, c.text+c.more[:len(c.more)-1], impl.DtdOut{At: full.At, Code: impl.ErrSyntax})
	}
}

func TestNamesThatAreThereFillNothing(t *testing.T) {
	text := numbered("<!ENTITY e$ 'x'>", 0, 40) + "<!ATTLIST a" + numbered(" k$ ID ''", 0, 40) + ">"
	told := impl.DtdRead(text)
	if len(told.Dtd.Ents) != 40 || len(told.Dtd.Atts) != 40 || told.Dtd.Ents[39] != (impl.Ent{Name: "e39", Text: "x"}) || told.Dtd.Atts[39] != (impl.Att{Of: "a", Name: "k39", Words: true, Has: true}) {
		t.Errorf("40 of each: got %v", told)
	}
	again := numbered("<!ENTITY e$ 'y'>", 0, 40) + "<!ATTLIST a" + numbered(" k$ CDATA 'y'", 0, 40) + ">"
	checkHead(t, text+again, told)
	checkHead(t, text+"<!ENTITY e39 '%'>", impl.DtdOut{At: int64(len(text)), Code: impl.ErrSyntax})
}

func TestHeadOrderOfFaults(t *testing.T) {
	full := numbered("<!ENTITY e$ ''>", 0, 41)
	for _, text := range []string{strings.Repeat(" ", 4001), strings.Repeat("x", 4001), "\xff" + strings.Repeat(" ", 4000), strings.Repeat("\r", 4001), full + strings.Repeat("\n", 4001)} {
		checkHead(t, text, impl.DtdOut{Code: impl.ErrSize})
	}
	checkHead(t, strings.Repeat(" ", 4000), impl.DtdOut{})
	checkHead(t, strings.Repeat(" ", 3999)+"x", impl.DtdOut{At: 3999, Code: impl.ErrSyntax})
	checkHead(t, "<!ENTITY e '"+strings.Repeat("\u20ac", 1328)+"  '>", impl.DtdOut{Dtd: ents(impl.Ent{Name: "e", Text: strings.Repeat("\u20ac", 1328) + "  "})})
	for _, bad := range []string{"\xff", "\x80", "\xc3", "\xe2\x82", "\xed\xa0\x80", "\xef\xbf\xbf", "\x00", "\x0b", "\r", "\r\n"} {
		for _, text := range []string{bad, "x" + bad, bad + "x", "<a>" + bad, " <!ENTITY e '" + bad + "'>", full + bad, "<!--" + bad + "-->", "<!ELEMENT a" + bad + " b>", "<!ENTITY e 'x'>" + bad} {
			checkHead(t, text, impl.DtdOut{Code: impl.ErrForm})
		}
	}
}

func TestEntOf(t *testing.T) {
	long := strings.Repeat("n", 4001)
	d := impl.Dtd{Ents: []impl.Ent{{Name: "e", Text: "1"}, {Name: "f", Text: "2"}, {Name: "e", Text: "3"}, {Text: "4"}, {Name: long, Text: "5"}, {Name: long[1:], Text: "6"}, {Name: "\xff", Text: "7\x00"}},
		Atts: []impl.Att{{Of: "g", Name: "g", Value: "8"}}}
	for name, want := range map[string]impl.Ent{
		"e": {Name: "e", Text: "1"}, "f": {Name: "f", Text: "2"}, "E": {}, "ee": {}, "g": {}, "": {Text: "4"}, long: {}, long[1:]: {Name: long[1:], Text: "6"}, long[2:]: {}, "\xff": {Name: "\xff", Text: "7\x00"},
	} {
		if got := impl.EntOf(d, name); got != want {
			t.Errorf("EntOf %.20q: got %.80q, want %.80q", name, got, want)
		}
	}
	if got := impl.EntOf(impl.Dtd{}, ""); got != (impl.Ent{}) {
		t.Errorf("EntOf nothing: got %v", got)
	}
	many := impl.Dtd{}
	for n := range 500 {
		many.Ents = append(many.Ents, impl.Ent{Name: strconv.Itoa(n), Text: "x"})
	}
	if got := impl.EntOf(many, "499"); got != many.Ents[499] {
		t.Errorf("EntOf of 500: got %v", got)
	}
}

func TestAttOf(t *testing.T) {
	long := strings.Repeat("n", 4001)
	d := impl.Dtd{Ents: []impl.Ent{{Name: "z", Text: "1"}}, Atts: []impl.Att{
		{Of: "a", Name: "k", Words: true, Has: true, Value: "1"}, {Of: "b", Name: "k", Value: "2"}, {Of: "a", Name: "k", Value: "3"}, {Of: "k", Name: "a", Has: true, Value: "4"},
		{Of: "a", Name: long, Value: "5"}, {Of: long, Name: "a", Value: "6"}, {Of: long[1:], Name: long[1:], Value: "7"}, {Name: "k", Words: true},
	}}
	for names, want := range map[[2]string]impl.Att{
		{"a", "k"}: d.Atts[0], {"b", "k"}: d.Atts[1], {"k", "a"}: d.Atts[3], {"a", "a"}: {}, {"k", "k"}: {}, {"ak", ""}: {}, {"", "ak"}: {}, {"", "k"}: d.Atts[7], {"a", ""}: {}, {"z", "z"}: {},
		{"a", long}: {}, {long, "a"}: {}, {long[1:], long[1:]}: d.Atts[6], {long[1:], long[2:]}: {},
	} {
		if got := impl.AttOf(d, names[0], names[1]); got != want {
			t.Errorf("AttOf %.20q: got %+v, want %+v", names, got, want)
		}
	}
	if got := impl.AttOf(impl.Dtd{}, "", ""); got != (impl.Att{}) {
		t.Errorf("AttOf nothing: got %v", got)
	}
}

// What was read is found; what is asked is not changed, and no two answers share memory.
func TestHeadAnswersAreNew(t *testing.T) {
	text := "<!ENTITY e '1'><!ENTITY f '2'><!ATTLIST a k CDATA '3' l ID '4'>"
	first, second, third := impl.DtdRead(text).Dtd, impl.DtdRead(text).Dtd, impl.DtdRead(text).Dtd
	for _, e := range first.Ents {
		if impl.EntOf(first, e.Name) != e {
			t.Errorf("EntOf %q is not %v", e.Name, e)
		}
	}
	for _, a := range first.Atts {
		if impl.AttOf(first, a.Of, a.Name) != a {
			t.Errorf("AttOf %q, %q is not %v", a.Of, a.Name, a)
		}
	}
	if !reflect.DeepEqual(first, third) {
		t.Errorf("asking changed %v to %v", third, first)
	}
	first.Ents[0].Text = "x"
	first.Atts[0].Value = "x"
	_ = append(first.Ents[:1], impl.Ent{Name: "y"})
	_ = append(first.Atts[:1], impl.Att{Name: "y"})
	if !reflect.DeepEqual(second, third) || !reflect.DeepEqual(impl.DtdRead(text).Dtd, third) {
		t.Errorf("two answers share memory: %v", second)
	}
}

const headName = `[A-Za-z:_][A-Za-z0-9:_.-]*`

// The marks of a head as they stand in the document's table.
var (
	entityForm    = regexp.MustCompile(`^<!ENTITY[\t\n ]+(` + headName + `)[\t\n ]+(?:"([^"%]*)"|'([^'%]*)')[\t\n ]*>`)
	entityValue   = regexp.MustCompile(`^(?:[^&]|&#[0-9]{1,8};|&#x[0-9a-fA-F]{1,8};|&` + headName + `;)*$`)
	attlistForm   = regexp.MustCompile(`^<!ATTLIST[\t\n ]+` + headName + `((?:` + attDefinition + `)*)[\t\n ]*>`)
	definedForm   = regexp.MustCompile(attDefinition)
	elementForm   = regexp.MustCompile(`^<!ELEMENT[\t\n ]+` + headName + `[\t\n ]+[^<>]*>`)
	numberForm    = regexp.MustCompile(`&#(x?[0-9a-fA-F]+);`)
	attDefinition = `[\t\n ]+(` + headName + `)[\t\n ]+(CDATA|ID|IDREF|NMTOKEN|NMTOKENS)[\t\n ]+(?:#REQUIRED|#IMPLIED|(?:#FIXED[\t\n ]+)?(?:"[^"<]*"|'[^'<]*'))`
)

func rightNumbers(value string) bool {
	for _, found := range numberForm.FindAllStringSubmatch(value, -1) {
		base, digits := 10, found[1]
		if digits[0] == 'x' {
			base, digits = 16, digits[1:]
		}
		n, err := strconv.ParseInt(digits, base, 64)
		if err != nil || !inside(n, characters) {
			return false
		}
	}
	return true
}

// markOfHead: the size of the mark with which a text begins, the names that it defines, and whether there is such a mark.
func markOfHead(text string) (int, []string, bool) {
	if found := entityForm.FindStringSubmatch(text); found != nil {
		value := found[2] + found[3]
		return len(found[0]), []string{found[1]}, entityValue.MatchString(value) && rightNumbers(value)
	}
	if found := attlistForm.FindStringSubmatch(text); found != nil {
		var names []string
		for _, d := range definedForm.FindAllStringSubmatch(found[1], -1) {
			names = append(names, d[1])
		}
		return len(found[0]), names, true
	}
	if found := elementForm.FindString(text); found != "" {
		return len(found), nil, true
	}
	kind, size := wholeMark(text)
	return size, nil, kind == impl.TkComment || kind == impl.TkPi
}

// headAgainstForms: how many definitions of each kind a head has, or where it is wrong.
func headAgainstForms(text string) (ents []string, atts []string, at int, right bool) {
	for at < len(text) {
		if strings.ContainsRune("\t\n ", rune(text[at])) {
			at++
			continue
		}
		size, names, right := markOfHead(text[at:])
		if !right {
			return nil, nil, at, false
		}
		l := &atts
		if strings.HasPrefix(text[at:], "<!ENTITY") {
			l = &ents
		}
		for _, name := range names {
			if !slices.Contains(*l, name) {
				*l = append(*l, name)
			}
		}
		at += size
	}
	return ents, atts, at, true
}

func checkHeadForm(t *testing.T, text string) {
	t.Helper()
	wantEnts, wantAtts, at, right := headAgainstForms(text)
	got := impl.DtdRead(text)
	if !right {
		if !reflect.DeepEqual(got, impl.DtdOut{At: int64(at), Code: impl.ErrSyntax}) {
			t.Fatalf("DtdRead of %q: got %+v, want a fault at %d", text, got, at)
		}
		return
	}
	var gotEnts, gotAtts []string
	for _, e := range got.Dtd.Ents {
		gotEnts = append(gotEnts, e.Name)
	}
	for _, a := range got.Dtd.Atts {
		gotAtts = append(gotAtts, a.Name)
	}
	if got.Code != impl.OK || got.At != 0 || !slices.Equal(gotEnts, wantEnts) || !slices.Equal(gotAtts, wantAtts) {
		t.Fatalf("DtdRead of %q: got %+v, want entities %q and attributes %q", text, got, wantEnts, wantAtts)
	}
}

func TestHeadsAgainstForms(t *testing.T) {
	t.Parallel()
	for _, c := range []struct {
		ahead  string
		pieces string
		most   int
	}{
		{"", "a > \n <!-- --> <?p ?> <!ENTITY <!ATTLIST <!ELEMENT ''", 4},
		{"<!ENTITY", "e ' \" % < > \n", 5},
		{"<!ENTITY e", "e ' \" & ; < >", 5},
		{"<!ENTITY e '", "& # x 6 e ; '>", 5},
		{"<!ENTITY e '&#", "x 0 00000 4 1 ; '> &#", 5},
		{"<!ATTLIST", "a CDATA #IMPLIED '' >", 6},
		{"<!ATTLIST a k", "CDATA ID REF NMTOKEN S '' >", 5},
		{"<!ATTLIST a k ID ", "#FIXED #REQUIRED #IMPLIED ' \" < > k ID", 4},
		{"<!ATTLIST a k ID ''", "' k a ID > #FIXED", 5},
		{"<!ELEMENT", "a ( < > ' & \n", 5},
		{"<!", "- -- ENTITY ATTLIST ELEMENT a > ''", 4},
	} {
		everyText(c.ahead, append(strings.Split(c.pieces, " "), " "), c.most, func(text string) {
			checkHeadForm(t, text)
		})
	}
}
