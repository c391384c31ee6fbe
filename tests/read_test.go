package tests

import (
	"reflect"
	"strings"
	"testing"
	"unicode/utf8"

	"loop.example/g00352/impl"
)

func start(name string, attrs ...string) impl.Event {
	e := impl.Event{Kind: impl.EvStart, Name: name}
	for i := 0; i < len(attrs); i += 2 {
		e.Attrs = append(e.Attrs, impl.Attr{Name: attrs[i], Value: attrs[i+1]})
	}
	return e
}

func end(name string) impl.Event {
	return impl.Event{Kind: impl.EvEnd, Name: name}
}

func words(text string) impl.Event {
	return impl.Event{Kind: impl.EvText, Text: text}
}

func remark(text string) impl.Event {
	return impl.Event{Kind: impl.EvComment, Text: text}
}

func order(name string, text string) impl.Event {
	return impl.Event{Kind: impl.EvPi, Name: name, Text: text}
}

func events(l ...impl.Event) []impl.Event {
	return l
}

// plainEvents: an empty list and none are the same.
func plainEvents(l []impl.Event) []impl.Event {
	var out []impl.Event
	for _, e := range l {
		if len(e.Attrs) == 0 {
			e.Attrs = nil
		}
		out = append(out, e)
	}
	return out
}

func sameEvents(got impl.EventsOut, want impl.EventsOut) bool {
	return got.Code == want.Code && got.At == want.At && reflect.DeepEqual(plainEvents(got.Events), plainEvents(want.Events))
}

func checkRead(t *testing.T, text string, closed bool, want impl.EventsOut) {
	t.Helper()
	got := impl.Read(text, closed)
	if !sameEvents(got, want) {
		t.Errorf("Read of %.200q (%d bytes), closed %v:\n got %+v\nwant %+v", text, len(text), closed, got, want)
	}
}

// checkBoth: a fault that is told whether it is closed or not.
func checkBoth(t *testing.T, text string, want impl.EventsOut) {
	t.Helper()
	checkRead(t, text, true, want)
	checkRead(t, text, false, want)
}

func checkWhole(t *testing.T, text string, want ...impl.Event) {
	t.Helper()
	checkRead(t, text, true, impl.EventsOut{Events: want, At: int64(len(text))})
	checkRead(t, text+" ", false, impl.EventsOut{Events: want, At: int64(len(text)), Code: impl.ErrShort})
}

// A piece is a mark, the first line, a text, or, if it has a text's piece ahead of it, a part of that text: a reference
// is a part of its own. What it tells is not put together yet.
type piece struct {
	text  string
	tells []impl.Event
}

func tells(text string, l ...impl.Event) piece {
	return piece{text, l}
}

func (p piece) isMark() bool {
	return strings.HasPrefix(p.text, "<")
}

const (
	firstLine    = `<?xml version="1.0"?>`
	encodedLine  = `<?xml version="1.0" encoding="UTF-8"?>`
	headOfPieces = "<!DOCTYPE a [ <!ENTITY e '<b/>x'>\n<!ENTITY f \"&e;<c k='&g;'>&#38;lt;</c>\u20ac\"><!ENTITY g ' &#38;lt;'><!ENTITY n ''><!ATTLIST a i ID ' 1  2 ' d CDATA '&g;'><!--]--> ] >"
)

var documents = [][]piece{
	{tells("<a/>", start("a"), end("a"))},
	{tells("<a>", start("a")), tells("</a>", end("a"))},
	{tells("<a  k = '1'\n\u00e9=\"'\u20ac\"\t>", start("a", "k", "1", "\u00e9", "'\u20ac")), tells("</a\n>", end("a"))},
	{tells(firstLine), tells("<a/>", start("a"), end("a"))},
	{tells(encodedLine), tells("\n\n"), tells("<a/>", start("a"), end("a")), tells("\n")},
	{tells("<!--1-->", remark("1")), tells("<?p?>", order("p", "")), tells(" \t\n"), tells("<!DOCTYPE b>"), tells("<!--2-->", remark("2")), tells(" "), tells("<?q  r ?>", order("q", "r ")),
		tells("<a/>", start("a"), end("a")), tells("\t"), tells("<!---->", remark("")), tells("<?s \u20ac?>", order("s", "\u20ac")), tells("\n")},
	{tells("<a>", start("a")), tells("x \u20ac\n", words("x \u20ac\n")), tells("<b>", start("b")), tells("<c/>", start("c"), end("c")), tells("y", words("y")), tells("</b>", end("b")),
		tells("z", words("z")), tells("<b\n/>", start("b"), end("b")), tells("</a>", end("a"))},
	{tells("<a>", start("a")), tells("x", words("x")), tells("<![CDATA[<b>&amp;]]]>", words("<b>&amp;]")), tells("y", words("y")), tells("<![CDATA[]]>", words("")), tells("<![CDATA[\u00e9]]>", words("\u00e9")), tells("&lt;", words("<")),
		tells("<!--c-->", remark("c")), tells("<![CDATA[]]>", words("")), tells("<?p x?>", order("p", "x")), tells("z", words("z")), tells("</a>", end("a"))},
	{tells("<a>", start("a")), tells("1", words("1")), tells("&lt;", words("<")), tells("&gt;", words(">")), tells("&amp;", words("&")), tells(";", words(";")), tells("&apos;", words("'")), tells("&quot;", words("\"")),
		tells("&#65;", words("A")), tells("&#x20AC;", words("\u20ac")), tells("&#13;", words("\r")), tells("&#10;", words("\n")), tells("</a>", end("a"))},
	{tells(firstLine), tells(headOfPieces), tells("\n"), tells("<a d='\t&lt;\n'>", start("a", "d", " < ", "i", "1 2")), tells("t", words("t")), tells("&e;", start("b"), end("b"), words("x")), tells("&n;", words("")), tells("u", words("u")),
		tells("&f;", start("b"), end("b"), words("x"), start("c", "k", " <"), words("<"), end("c"), words("\u20ac")), tells("&e;", start("b"), end("b"), words("x")), tells("<a>", start("a", "i", "1 2", "d", " <")), tells("</a>", end("a")), tells("</a>", end("a")), tells(" ")},
	{tells("<"+longest+">", start(longest)), tells("</"+longest+">", end(longest))},
	{tells("<x:y xmlns:x='u'>", start("x:y", "xmlns:x", "u")), tells("</x:y>", end("x:y"))},
}

func textOf(l []piece) string {
	var out strings.Builder
	for _, p := range l {
		out.WriteString(p.text)
	}
	return out.String()
}

// toldBy: what pieces tell, texts side by side as one; not one that nothing follows.
func toldBy(l []piece) []impl.Event {
	var raw []impl.Event
	for _, p := range l {
		raw = append(raw, p.tells...)
	}
	return joined(raw)
}

func joined(raw []impl.Event) []impl.Event {
	var out []impl.Event
	text := ""
	for _, e := range raw {
		if e.Kind == impl.EvText {
			text += e.Text
			continue
		}
		if text != "" {
			out = append(out, words(text))
			text = ""
		}
		out = append(out, e)
	}
	return out
}

func (p piece) isText() bool {
	return !p.isMark()
}

// isEnded: has there been an element, and has it ended?
func isEnded(l []impl.Event) bool {
	open, any := 0, false
	for _, e := range l {
		switch e.Kind {
		case impl.EvStart:
			open++
			any = true
		case impl.EvEnd:
			open--
		}
	}
	return any && open == 0
}

// cutDocument: what is told of the first bytes of a document.
func cutDocument(l []piece, size int, closed bool) impl.EventsOut {
	whole, from := 0, 0
	for whole < len(l) && from+len(l[whole].text) <= size {
		from += len(l[whole].text)
		whole++
	}
	// The place where the text begins that the first bytes end in.
	textFrom, textAt := whole, from
	for textFrom > 0 && l[textFrom-1].isText() {
		textFrom--
		textAt -= len(l[textFrom].text)
	}
	inMark := size > from && l[whole].isMark()
	inReference := size > from && strings.HasPrefix(l[whole].text, "&")
	switch {
	case inMark && closed:
		return impl.EventsOut{Events: toldBy(l[:whole]), At: int64(from), Code: impl.ErrSyntax}
	case inMark:
		return impl.EventsOut{Events: toldBy(l[:whole]), At: int64(from), Code: impl.ErrShort}
	case !closed:
		return impl.EventsOut{Events: toldBy(l[:textFrom]), At: int64(textAt), Code: impl.ErrShort}
	case inReference:
		return impl.EventsOut{Events: toldBy(l[:whole]), At: int64(textAt), Code: impl.ErrSyntax}
	case isEnded(toldBy(l[:whole])):
		return impl.EventsOut{Events: toldBy(l[:whole]), At: int64(size)}
	}
	return impl.EventsOut{Events: toldBy(l[:whole]), At: int64(size), Code: impl.ErrSyntax}
}

func TestDocuments(t *testing.T) {
	for _, l := range documents {
		text := textOf(l)
		want := impl.EventsOut{Events: toldBy(l), At: int64(len(text))}
		checkRead(t, text, true, want)
		// The lines' ends are alike, and places count behind that.
		checkRead(t, strings.ReplaceAll(text, "\n", "\r\n"), true, want)
		checkRead(t, strings.ReplaceAll(text, "\n", "\r"), true, want)
	}
}

// Promise 4.
func TestDocumentsCutOff(t *testing.T) {
	for _, l := range documents {
		text := textOf(l)
		whole := impl.Read(text, true).Events
		for size := 0; size <= len(text); size++ {
			cut := text[:size]
			for _, closed := range []bool{false, true} {
				if !utf8.ValidString(cut) {
					checkRead(t, cut, closed, impl.EventsOut{Code: impl.ErrForm})
					continue
				}
				checkRead(t, cut, closed, cutDocument(l, size, closed))
				checkBegins(t, cut, impl.Read(cut, closed).Events, whole)
			}
		}
	}
}

func checkBegins(t *testing.T, text string, first []impl.Event, whole []impl.Event) {
	t.Helper()
	if len(first) > len(whole) || !reflect.DeepEqual(plainEvents(first), plainEvents(whole[:len(first)])) {
		t.Errorf("the events of %q are not the first ones of the whole: %v, %v", text, first, whole)
	}
}

// Promise 4: the events of a whole document go together.
func checkGoTogether(t *testing.T, text string, l []impl.Event) {
	t.Helper()
	var open []string
	roots, textAhead := 0, false
	for _, e := range l {
		isText := e.Kind == impl.EvText
		wrong := false
		switch e.Kind {
		case impl.EvStart:
			if len(open) == 0 {
				roots++
			}
			open = append(open, e.Name)
			wrong = len(open) > impl.MaxDeep || e.Text != ""
		case impl.EvEnd:
			wrong = len(open) == 0 || open[len(open)-1] != e.Name || len(e.Attrs) > 0 || e.Text != ""
			if !wrong {
				open = open[:len(open)-1]
			}
		case impl.EvText:
			wrong = len(open) == 0 || e.Text == "" || textAhead || e.Name != ""
		case impl.EvComment:
			wrong = e.Name != ""
		case impl.EvPi:
			wrong = e.Name == ""
		default:
			wrong = true
		}
		if wrong || e.Kind != impl.EvStart && len(e.Attrs) > 0 {
			t.Errorf("Read of %q: %v does not go together with the others in %v", text, e, l)
		}
		textAhead = isText
	}
	if roots != 1 || len(open) != 0 {
		t.Errorf("Read of %q: not one element that is ended: %v", text, l)
	}
}

func TestEventsGoTogether(t *testing.T) {
	for _, l := range documents {
		checkGoTogether(t, textOf(l), impl.Read(textOf(l), true).Events)
	}
}

func TestFirstLine(t *testing.T) {
	for _, line := range []string{firstLine, encodedLine} {
		for size := range line {
			checkRead(t, line[:size], false, impl.EventsOut{Code: impl.ErrShort})
			checkRead(t, line[:size], true, impl.EventsOut{Code: impl.ErrSyntax})
			if size > 5 {
				for _, other := range []string{"~", "<a/>", "\n", "  ", "\u00e9", "|"} {
					checkBoth(t, line[:size]+other, impl.EventsOut{Code: impl.ErrSyntax})
				}
			}
		}
		size := int64(len(line))
		checkRead(t, line, false, impl.EventsOut{At: size, Code: impl.ErrShort})
		checkRead(t, line, true, impl.EventsOut{At: size, Code: impl.ErrSyntax})
		checkWhole(t, line+"<a/>", start("a"), end("a"))
		checkWhole(t, line+"\n<!DOCTYPE a><a/>", start("a"), end("a"))
		// It stands at the very beginning alone.
		checkBoth(t, line+line, impl.EventsOut{At: size, Code: impl.ErrSyntax})
		checkBoth(t, line+"\n"+line+"<a/>", impl.EventsOut{At: size + 1, Code: impl.ErrSyntax})
		checkBoth(t, " "+line+"<a/>", impl.EventsOut{At: 1, Code: impl.ErrSyntax})
		checkBoth(t, "\r\n"+line+"<a/>", impl.EventsOut{At: 1, Code: impl.ErrSyntax})
		checkBoth(t, "\uFEFF"+line+"<a/>", impl.EventsOut{Code: impl.ErrSyntax})
		checkBoth(t, "<!---->"+line, impl.EventsOut{Events: events(remark("")), At: 7, Code: impl.ErrSyntax})
		checkBoth(t, "<a>"+line+"</a>", impl.EventsOut{Events: events(start("a")), At: 3, Code: impl.ErrSyntax})
		checkBoth(t, "<a/>"+line, impl.EventsOut{Events: events(start("a"), end("a")), At: 4, Code: impl.ErrSyntax})
		checkRead(t, " "+line[:5], false, impl.EventsOut{At: 1, Code: impl.ErrShort})
		checkRead(t, " "+line[:6], false, impl.EventsOut{At: 1, Code: impl.ErrSyntax})
	}
	for _, line := range []string{
		"<?xml?>", "<?xml ?>", "<?xml version='1.0'?>", "<?xml version=\"1.1\"?>", "<?xml  version=\"1.0\"?>", "<?xml\tversion=\"1.0\"?>", "<?xml\rversion=\"1.0\"?>", "<?xml version=\"1.0\" ?>", "<?xml version = \"1.0\"?>",
		"<?xml version=\"1.0\" encoding=\"utf-8\"?>", "<?xml version=\"1.0\" encoding='UTF-8'?>", "<?xml version=\"1.0\"  encoding=\"UTF-8\"?>", "<?xml version=\"1.0\"\nencoding=\"UTF-8\"?>", "<?xml version=\"1.0\" encoding=\"UTF-8\" ?>", "<?xml version=\"1.0\" encoding=\"UTF-16\"?>",
		"<?xml encoding=\"UTF-8\"?>", "<?xml version=\"1.0\" standalone=\"yes\"?>", "<?xml version=\"1.0\" encoding=\"UTF-8\" standalone=\"no\"?>", "<?XML version=\"1.0\"?>", "<?Xml version=\"1.0\"?>", "<?xml version=\"1.0\"encoding=\"UTF-8\"?>",
	} {
		checkBoth(t, line, impl.EventsOut{Code: impl.ErrSyntax})
		checkBoth(t, line+"\n<a/>", impl.EventsOut{Code: impl.ErrSyntax})
	}
	checkWhole(t, "<?xmlx version=\"1.0\"?><a/>", order("xmlx", "version=\"1.0\""), start("a"), end("a"))
}

func TestWhatMayNotStandThere(t *testing.T) {
	a := events(start("a"), end("a"))
	for _, c := range []struct {
		text   string
		at     int64
		events []impl.Event
	}{
		// A second head, a head behind the element or in it.
		{"<!DOCTYPE a><!DOCTYPE a><a/>", 12, nil},
		{"<!DOCTYPE a>\n<!--c--><!DOCTYPE a><a/>", 21, events(remark("c"))},
		{"<a/><!DOCTYPE a>", 4, a},
		{"<a/>\n<!DOCTYPE a><b/>", 5, a},
		{"<!DOCTYPE a><a/><!DOCTYPE a>", 16, a},
		{"<a><!DOCTYPE a></a>", 3, events(start("a"))},
		{"<a><b/><!DOCTYPE a [x]></a>", 7, events(start("a"), start("b"), end("b"))},
		// A second element.
		{"<a/><b/>", 4, a},
		{"<a></a><a></a>", 7, a},
		{"<a/>\n<!--c--><b>", 13, events(start("a"), end("a"), remark("c"))},
		{"<a/><b k='&x;'/>", 4, a},
		// Text outside of the element.
		{"x<a/>", 0, nil},
		{"\n x<a/>", 0, nil},
		{firstLine + "x<a/>", 21, nil},
		{"<!DOCTYPE a>x<a/>", 12, nil},
		{"<a/>x<!---->", 4, a},
		{"<a/> x<b/>", 4, a},
		{"\u00a0<a/>", 0, nil},
		{"&<a/>", 0, nil},
		{"&#32;<a/>", 0, nil},
		{"<a/>&x;<!---->", 4, a},
		{"<a/>&#10;<!---->", 4, a},
		{"<!DOCTYPE a [<!ENTITY e ' '>]>&e;<a/>", 30, nil},
		{"]]><a/>", 0, nil},
		{"<a/>]]>", 4, a},
		{"<![CDATA[]]><a/>", 0, nil},
		{"<![CDATA[ ]]><a/>", 0, nil},
		{"<!---->\n<![CDATA[x]]><a/>", 8, events(remark(""))},
		{"<a/><![CDATA[]]>", 4, a},
		// An end of another name, or of nothing.
		{"</a>", 0, nil},
		{"<!----></a><a/>", 7, events(remark(""))},
		{"<a/></a>", 4, a},
		{"<a></a></a>", 7, a},
		{"<a></b>", 3, events(start("a"))},
		{"<a></A>", 3, events(start("a"))},
		{"<a></a:a>", 3, events(start("a"))},
		{"<aa></a>", 4, events(start("aa"))},
		{"<a></aa>", 3, events(start("a"))},
		{"<a>x</b>", 4, events(start("a"))},
		{"<a>\u20ac<![CDATA[x]]></b>", 19, events(start("a"))},
		{"<a>x<!--c-->y</b>", 13, events(start("a"), words("x"), remark("c"))},
		{"<a><b></a></b>", 6, events(start("a"), start("b"))},
		{"<a><b/></b></a>", 7, events(start("a"), start("b"), end("b"))},
		{"<a><b></b></b>", 10, events(start("a"), start("b"), end("b"))},
	} {
		checkBoth(t, c.text, impl.EventsOut{Events: c.events, At: c.at, Code: impl.ErrSyntax})
		checkBoth(t, c.text+"<x>", impl.EventsOut{Events: c.events, At: c.at, Code: impl.ErrSyntax})
	}
}

// What Next tells to be short is not read, wherever it stands.
func TestShortIsNotRead(t *testing.T) {
	a := events(start("a"), end("a"))
	for _, short := range []string{"x", " ", "&x;", "<", "<b", "</", "</b", "<!DOCTYPE a", "<![CDATA[x]]", "<!--", "<?p x?", "<b k='&x;'"} {
		checkRead(t, short, false, impl.EventsOut{Code: impl.ErrShort})
		checkRead(t, "<a/>"+short, false, impl.EventsOut{Events: a, At: 4, Code: impl.ErrShort})
		checkRead(t, "<a>"+short, false, impl.EventsOut{Events: a[:1], At: 3, Code: impl.ErrShort})
		checkRead(t, "<a>\u20ac<!--c-->"+short, false, impl.EventsOut{Events: events(start("a"), words("\u20ac"), remark("c")), At: 14, Code: impl.ErrShort})
		if strings.HasPrefix(short, "<") {
			checkRead(t, "<a>\u20ac"+short, false, impl.EventsOut{Events: a[:1], At: 6, Code: impl.ErrShort})
			checkRead(t, "<a>\u20ac"+short, true, impl.EventsOut{Events: a[:1], At: 6, Code: impl.ErrSyntax})
			checkRead(t, "<a/> "+short, true, impl.EventsOut{Events: a, At: 5, Code: impl.ErrSyntax})
		}
	}
	checkRead(t, "", false, impl.EventsOut{Code: impl.ErrShort})
	checkRead(t, "<a/>", false, impl.EventsOut{Events: a, At: 4, Code: impl.ErrShort})
	checkRead(t, "<a/><!---->", false, impl.EventsOut{Events: append(a, remark("")), At: 11, Code: impl.ErrShort})
	checkRead(t, "<!DOCTYPE a>", false, impl.EventsOut{At: 12, Code: impl.ErrShort})
}

func TestNotEnded(t *testing.T) {
	for text, want := range map[string][]impl.Event{
		"": nil, " ": nil, "\r\n": nil, "<!--c-->": events(remark("c")), "<?p?>\n": events(order("p", "")), "<!DOCTYPE a>": nil, "<!DOCTYPE a [<!ENTITY e '<a/>'>]> ": nil,
		"<a>": events(start("a")), "<a>x": events(start("a")), "<a>x&lt;": events(start("a")), "<a><![CDATA[x]]>": events(start("a")), "<a><b></b>": events(start("a"), start("b"), end("b")), "<a><a></a> ": events(start("a"), start("a"), end("a")),
		"<a>x<!---->y": events(start("a"), words("x"), remark("")),
	} {
		checkRead(t, text, true, impl.EventsOut{Events: want, At: int64(len(impl.Ends(text))), Code: impl.ErrSyntax})
	}
}

// A fault of Next is told as it is, at the mark.
func TestWrongMarksInADocument(t *testing.T) {
	for _, w := range wrongMarks {
		want := impl.EventsOut{Events: events(start("a"), words("\u20ac"), start("b"), end("b")), At: 10, Code: w.code}
		checkBoth(t, "<a>\u20ac<b/>"+w.text+"<", want)
		if strings.HasPrefix(w.text, "<?xml") {
			continue
		}
		checkBoth(t, w.text+"<", impl.EventsOut{Code: w.code})
		checkBoth(t, "<a/>"+w.text+"<", impl.EventsOut{Events: events(start("a"), end("a")), At: 4, Code: w.code})
	}
}

func TestTextsSideBySide(t *testing.T) {
	ahead := "<!DOCTYPE a [<!ENTITY e 'E'><!ENTITY n ''><!ENTITY m '&n;<![CDATA[]]>'>]>"
	parts := map[string]string{"x": "x", "&lt;": "<", "&#x41;": "A", "<![CDATA[&]]>": "&", "<![CDATA[]]>": "", "&e;": "E", "&n;": "", "&m;": "", "&#13;": "\r"}
	for first, one := range parts {
		for second, two := range parts {
			for third, three := range parts {
				l := events(start("a"), end("a"))
				if text := one + two + three; text != "" {
					l = events(start("a"), words(text), end("a"))
				}
				checkWhole(t, ahead+"<a>"+first+second+third+"</a>", l...)
			}
			for between, e := range map[string]impl.Event{"<!---->": remark(""), "<?p?>": order("p", "")} {
				l := joined(events(start("a"), words(one), e, words(two), end("a")))
				checkWhole(t, ahead+"<a>"+first+between+second+"</a>", l...)
			}
			l := joined(events(start("a"), words(one), start("b"), end("b"), words(two), end("a")))
			checkWhole(t, ahead+"<a>"+first+"<b/>"+second+"</a>", l...)
		}
	}
}

// nested: so many elements, each in the other.
func nested(most int, inside string) string {
	return strings.Repeat("<a>", most) + inside + strings.Repeat("</a>", most)
}

func manyEvents(e impl.Event, most int) []impl.Event {
	var l []impl.Event
	for range most {
		l = append(l, e)
	}
	return l
}

func TestDeep(t *testing.T) {
	if impl.MaxDeep != 30 {
		t.Fatalf("MaxDeep: %d", impl.MaxDeep)
	}
	for _, inside := range []string{"<b/>", "<b></b>"} {
		l := append(manyEvents(start("a"), 29), start("b"), end("b"))
		checkWhole(t, nested(29, inside), append(l, manyEvents(end("a"), 29)...)...)
		for _, most := range []int{30, 31, 40} {
			checkBoth(t, nested(most, inside), impl.EventsOut{Events: manyEvents(start("a"), 30), At: 90, Code: impl.ErrDeep})
		}
		// An element within so many others that are ended again is not deep.
		again := strings.Repeat(inside, 3)
		if got := impl.Read("<a>"+nested(28, again)+nested(28, again)+"</a>", true); got.Code != impl.OK {
			t.Errorf("not deep: got %v", got)
		}
	}
	checkWhole(t, nested(30, ""), append(manyEvents(start("a"), 30), manyEvents(end("a"), 30)...)...)
	// Those of the document and those of entities count together.
	ahead := "<!DOCTYPE a [<!ENTITY e '&f;'><!ENTITY f '<a><a/></a>'>]>"
	at := int64(len(ahead))
	if got := impl.Read(ahead+nested(28, "&e;&e;"), true); got.Code != impl.OK {
		t.Errorf("entities that are not deep: got %v", got)
	}
	checkBoth(t, ahead+nested(29, "x&e;"), impl.EventsOut{Events: append(manyEvents(start("a"), 29), words("x"), start("a")), At: at + 87, Code: impl.ErrDeep})
	checkBoth(t, ahead+nested(30, "x&e;"), impl.EventsOut{Events: manyEvents(start("a"), 30), At: at + 90, Code: impl.ErrDeep})
	// Ahead of what its values are, and behind what Next says of it.
	checkBoth(t, nested(30, "<b k='&x;'/>"), impl.EventsOut{Events: manyEvents(start("a"), 30), At: 90, Code: impl.ErrDeep})
	checkBoth(t, nested(30, "<b k='' k=''/>"), impl.EventsOut{Events: manyEvents(start("a"), 30), At: 90, Code: impl.ErrThere})
	checkRead(t, nested(30, "")[:90]+"<b", false, impl.EventsOut{Events: manyEvents(start("a"), 30), At: 90, Code: impl.ErrShort})
}

func TestFaultsOfTheHead(t *testing.T) {
	for head, code := range map[string]int64{
		"x": impl.ErrSyntax, "<!ENTITY e '%'>": impl.ErrSyntax, "<!ENTITY e 'x'> <!ENTITY f '&'>": impl.ErrSyntax, "<!ATTLIST a k X ''>": impl.ErrSyntax, "<a/>": impl.ErrSyntax, "<!---->\n<?xml ?>": impl.ErrSyntax,
		numbered("<!ENTITY e$ ''>", 0, 41): impl.ErrFull, "<!ATTLIST a" + numbered(" k$ ID ''", 0, 41) + ">": impl.ErrFull,
		numbered("<!ENTITY e$ ''>", 0, 41) + "x": impl.ErrSyntax,
	} {
		mark := "<!DOCTYPE a [" + head + "]>"
		checkBoth(t, mark, impl.EventsOut{Code: code})
		checkBoth(t, mark+"<a/>", impl.EventsOut{Code: code})
		checkBoth(t, encodedLine+"\r\n<!--\u20ac--> "+mark+"<a>&x;</a>", impl.EventsOut{Events: events(remark("\u20ac")), At: int64(len(encodedLine)) + 12, Code: code})
		// Where no head may stand it is not read.
		checkBoth(t, "<a/>"+mark, impl.EventsOut{Events: events(start("a"), end("a")), At: 4, Code: impl.ErrSyntax})
		checkBoth(t, "<a>"+mark, impl.EventsOut{Events: events(start("a")), At: 3, Code: impl.ErrSyntax})
	}
	checkWhole(t, "<!DOCTYPE other ["+numbered("<!ENTITY e$ ''>", 0, 40)+"]><a>&e39;</a>", start("a"), end("a"))
	checkRead(t, "<!DOCTYPE a [x]", false, impl.EventsOut{Code: impl.ErrShort})
}

func TestReadOrderOfFaults(t *testing.T) {
	for _, text := range []string{
		strings.Repeat("x", 4001), "<a>" + strings.Repeat("x", 3994) + "</a>", strings.Repeat("\xff", 4001), strings.Repeat("\r\n", 2001), "<a/>" + strings.Repeat("\r\n", 1998) + "\n", strings.Repeat("<", 5000),
	} {
		checkBoth(t, text, impl.EventsOut{Code: impl.ErrSize})
	}
	checkRead(t, "<a>"+strings.Repeat("x", 3993)+"</a>", true, impl.EventsOut{Events: events(start("a"), words(strings.Repeat("x", 3993)), end("a")), At: 4000})
	checkRead(t, "<a/>"+strings.Repeat("\r\n", 1998), true, impl.EventsOut{Events: events(start("a"), end("a")), At: 2002})
	for _, bad := range []string{"\xff", "\x80", "\xc3", "\xe2\x82", "\xc0\x80", "\xed\xa0\x80", "\xef\xbf\xbf", "\xf4\x90\x80\x80", "\x00", "\x0b", "\x1f"} {
		for _, text := range []string{bad, "<a/>" + bad, bad + "<a/>", "<a>" + bad + "</a>", "<a/><b/>" + bad, "x" + bad, "<a k='" + bad + "'/>", "<!--" + bad + "-->", firstLine + bad, "\r\n" + bad, "<!DOCTYPE a [x]>" + bad, "<a>&x;</a>" + bad, nested(40, bad)} {
			checkBoth(t, text, impl.EventsOut{Code: impl.ErrForm})
		}
	}
}

// Bytes 13 are lines' ends, and are counted as such.
func TestReadLinesEnds(t *testing.T) {
	checkWhole(t, "<a>\n\n</a>", start("a"), words("\n\n"), end("a"))
	for _, text := range []string{"<a>\r\r</a>", "<a>\r\n\r\n</a>", "<a>\n\r</a>", "<a>\r\r\n</a>"} {
		checkRead(t, text, true, impl.EventsOut{Events: events(start("a"), words("\n\n"), end("a")), At: 9})
	}
	checkRead(t, "\r\n<a\r\n\r>\r&#13;\r\n</a\r>\r", true, impl.EventsOut{Events: events(start("a"), words("\n\r\n"), end("a")), At: 19})
	checkRead(t, "<a k='\r\n&#13;\r'/>", true, impl.EventsOut{Events: events(start("a", "k", " \r "), end("a")), At: 16})
	checkRead(t, "<a><!--\r\n--><?p \r\nx\r?><![CDATA[\r]]></a>", true, impl.EventsOut{Events: events(start("a"), remark("\n"), order("p", "x\n"), words("\n"), end("a")), At: 37})
	checkRead(t, "<a>\r\n\r\n<b/>x\r\n</c>", true, impl.EventsOut{Events: events(start("a"), words("\n\n"), start("b"), end("b")), At: 11, Code: impl.ErrSyntax})
	checkRead(t, "\r\n\r\n", true, impl.EventsOut{At: 2, Code: impl.ErrSyntax})
	checkRead(t, "<a/>\r", false, impl.EventsOut{Events: events(start("a"), end("a")), At: 4, Code: impl.ErrShort})
}

func TestReadAnswersAreNew(t *testing.T) {
	text := "<!DOCTYPE a [<!ATTLIST a k CDATA '1' l CDATA '2'>]><a><a/><a m='3'/>x</a>"
	first, second := impl.Read(text, true), impl.Read(text, true)
	want := events(start("a", "k", "1", "l", "2"), start("a", "k", "1", "l", "2"), end("a"), start("a", "m", "3", "k", "1", "l", "2"), end("a"), words("x"), end("a"))
	first.Events[0].Attrs[1].Value = "y"
	_ = append(first.Events[0].Attrs[:1], impl.Attr{Name: "z"}, impl.Attr{Name: "z"}, impl.Attr{Name: "z"})
	if !reflect.DeepEqual(plainEvents(first.Events[1:]), want[1:]) {
		t.Errorf("two lists of one answer share memory: %v", first.Events)
	}
	first.Events[2].Name = "z"
	if !reflect.DeepEqual(plainEvents(second.Events), want) || !sameEvents(impl.Read(text, true), second) {
		t.Errorf("two answers share memory: %v", second.Events)
	}
}
