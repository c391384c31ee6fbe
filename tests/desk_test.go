package tests

import (
	"slices"
	"strconv"
	"strings"
	"testing"

	"loop.example/g00352/impl"
)

// checkDesk: what a desk answers; DeskFault tells the same without Text.
func checkDesk(t *testing.T, text string, want impl.DeskOut) {
	t.Helper()
	if got := impl.DeskRun(text); got != want {
		t.Errorf("DeskRun of %.600q (%d bytes):\n got %.600q (%d bytes), %d, %d\nwant %.600q (%d bytes), %d, %d", text, len(text), got.Text, len(got.Text), got.Line, got.Code, want.Text, len(want.Text), want.Line, want.Code)
	}
	want.Text = ""
	if got := impl.DeskFault(text); got != want {
		t.Errorf("DeskFault of %.600q (%d bytes): got %+v, want %+v", text, len(text), got, want)
	}
}

// checkLines, promise 12: lines, each with what it tells behind it; the first of them tell the beginning of that.
func checkLines(t *testing.T, pairs ...string) {
	t.Helper()
	text, told := "", ""
	for i := 0; i < len(pairs); i += 2 {
		text += pairs[i] + "\n"
		told += pairs[i+1] + "\n"
		checkDesk(t, text, impl.DeskOut{Text: told})
	}
}

// checkWrongLine: a line that is none, wherever it stands, and whatever stands behind it.
func checkWrongLine(t *testing.T, line string) {
	t.Helper()
	for ahead := range 4 {
		for _, behind := range []string{"", "step\n", "step", "steps\n", "\n", "close\nclose\n"} {
			text := strings.Repeat("feed <a>\n", ahead) + line + "\n" + behind
			checkDesk(t, text, impl.DeskOut{Line: int64(ahead), Code: impl.ErrSyntax})
		}
	}
}

// failed: what is told beside a code, with its place, if there is one.
func failed(code int64, at ...int) string {
	out := "error " + strconv.FormatInt(code, 10)
	for _, n := range at {
		out += " " + strconv.Itoa(n)
	}
	return out
}

func TestFeedAndCloseLines(t *testing.T) {
	checkLines(t, "feed ", "ok", "feed <a>", "ok", "feed ", "ok", "feed x</a>", "ok", "feed  ", "ok", "feed |", "ok")
	checkLines(t, "close", "ok", "close", "ok", "close", "ok")
	// What is Closed takes nothing more, not even nothing, and stays as it was.
	checkLines(t, "close", "ok", "feed ", "error 10", "feed <a/>", "error 10", "close", "ok", "feed <a/>", "error 10", "step", "error 3")
	checkLines(t, "feed <a/>", "ok", "close", "ok", "feed x", "error 10", "step", "1 a", "feed </a>", "error 10", "step", "2 a", "step", "error 10", "feed ", "error 10", "close", "ok", "step", "error 10")
	// A document with a fault takes more as any other.
	checkLines(t, "feed </a>", "ok", "step", "error 3", "feed <a>", "ok", "step", "error 3", "close", "ok", "step", "error 3")
}

func TestStepOfEachKind(t *testing.T) {
	checkLines(t, "feed <!--c--><?p q?><?r?><a k='1' l=''>x<b m=' 2  3 '/></a><!---->", "ok",
		"step", `4 - "c"`, "step", `5 p "q"`, "step", "5 r", "step", "1 a k=1 l=", "step", `3 - "x"`, "step", "1 b m= 2  3 ", "step", "2 b", "step", "2 a", "step", "4 -",
		"step", "error 4", "close", "ok", "step", "error 10", "step", "error 10")
	// A name is told as it is, with its prefix.
	checkLines(t, "feed <p:a xmlns:p='u' xml:k='v'/><?\u00e9 \u20ac?>", "ok", "step", "1 p:a xmlns:p=u xml:k=v", "step", "2 p:a", "step", "5 \u00e9 \"\u20ac\"")
	// Texts side by side are one; an attribute of the head stands behind the mark's.
	checkLines(t, "feed "+headed("<!ATTLIST a i ID ' 1  2 ' d CDATA '&e;'>"+ent("e", "<b/>"), "<a d='-'>&lt;<![CDATA[&]]>&e;x</a>"), "ok", "close", "ok",
		"step", "1 a d=- i=1 2", "step", `3 - "&lt;&amp;"`, "step", "1 b", "step", "2 b", "step", `3 - "x"`, "step", "2 a", "step", "error 10")
}

func TestStepWithoutAnEvent(t *testing.T) {
	checkLines(t, "step", "error 4", "step", "error 4", "close", "ok", "step", "error 3", "step", "error 3")
	checkLines(t, "feed <a", "ok", "step", "error 4", "feed >", "ok", "step", "1 a", "step", "error 4", "feed te", "ok", "step", "error 4", "feed xt", "ok", "step", "error 4", "feed <!--", "ok", "step", "error 4", "feed -->", "ok",
		"step", `3 - "text"`, "step", "4 -", "step", "error 4", "close", "ok", "step", "error 3")
	// Each fault is told behind the events ahead of it.
	for text, code := range map[string]int64{
		"\xff\xff": impl.ErrForm, "\x01": impl.ErrForm, "</b>": impl.ErrSyntax, "]]>": impl.ErrSyntax, "<b x": impl.ErrShort, "y": impl.ErrShort, "\xe2\x82": impl.ErrShort, "&none;</a>": impl.ErrNone, "<b k='&none;'/>": impl.ErrNone, "<b k='' k=''/>": impl.ErrThere,
		strings.Repeat("<b>", 30): impl.ErrDeep,
	} {
		lines := []string{"feed <a>" + text, "ok", "step", "1 a"}
		if code == impl.ErrDeep {
			for range 29 {
				lines = append(lines, "step", "1 b")
			}
		}
		checkLines(t, append(lines, "step", failed(code), "step", failed(code))...)
	}
	checkLines(t, "feed "+headed(ent("e", "&f;")+ent("f", "&e;"), "<a>x&e;</a>"), "ok", "step", "1 a", "step", "error 9", "close", "ok", "step", "error 9")
	checkLines(t, "feed "+headed(ent("e", strings.Repeat("x", 1001)), "<a>&e;&e;<b/>&e;&e;</a>"), "ok", "step", "1 a", "step", `3 - "`+strings.Repeat("x", 2002)+`"`, "step", "1 b", "step", "2 b", "step", "error 7")
	checkLines(t, "feed "+headed("<!ENTITY e>", "<a/>"), "ok", "step", "error 3")
	checkLines(t, "feed "+headed(numbered("<!ENTITY e$ ''>", 0, 41), "<a/>"), "ok", "step", "error 7")
}

func TestCanonLines(t *testing.T) {
	for text, form := range map[string]string{
		"<a/>":                                            "&lt;a>&lt;/a>",
		" <a  k = '1' b=\"2\" > x </a> ":                  "&lt;a b=&quot;2&quot; k=&quot;1&quot;> x &lt;/a>",
		"<!--c--><?p q?><a><!--d--></a><!---->":           "&lt;!--c-->&#xA;&lt;?p q?>&#xA;&lt;a>&lt;!--d-->&lt;/a>&#xA;&lt;!---->",
		"<a xmlns:q='w' xmlns='v'><p:b xmlns:p='u'/></a>": "&lt;a xmlns=&quot;v&quot;>&lt;p:b xmlns:p=&quot;u&quot;>&lt;/p:b>&lt;/a>",
		"<a k='&lt;&#9;'>&lt;&#9;></a>":                   "&lt;a k=&quot;&amp;lt;&amp;#x9;&quot;>&amp;lt;&#x9;&amp;gt;&lt;/a>",
		"<a>|</a>":                                        "&lt;a>&#xA;&lt;/a>",
		"<a>&#124;</a>":                                   "&lt;a>|&lt;/a>",
		firstLine + "|<a>\u20ac</a>":                      "&lt;a>\u20ac&lt;/a>",
		headed(ent("e", "x"), "<a>&e;&e;</a>"):            "&lt;a>xx&lt;/a>",
	} {
		checkLines(t, "canon "+text, "form "+form, "canon "+text, "form "+form)
	}
	checkDocumentFaults(t, "canon ")
	// A form of 4000 bytes is told, one of more is full.
	x := strings.Repeat("x", 3974)
	checkLines(t, "canon <a>>>>>"+x+"yyy</a>", "form &lt;a>"+strings.Repeat("&amp;gt;", 4)+x+"yyy&lt;/a>")
	checkLines(t, "canon <a>>>>>"+x+"yyyy</a>", "error 7 0")
}

// checkDocumentFaults: what a line of a document tells of faults, of Read and of Spaced.
func checkDocumentFaults(t *testing.T, word string) {
	t.Helper()
	for _, c := range []struct {
		text string
		code int64
		at   int
	}{
		// No document at all.
		{"", impl.ErrSyntax, 0}, {" ", impl.ErrSyntax, 1}, {"||", impl.ErrSyntax, 2}, {"x", impl.ErrSyntax, 0}, {"<!--c-->", impl.ErrSyntax, 8}, {"step", impl.ErrSyntax, 0},
		// Of Read: the place in the text, with its lines' ends alike.
		{"\xff", impl.ErrForm, 0}, {"<a>\xe2\x82</a>", impl.ErrForm, 0}, {"<a>", impl.ErrSyntax, 3}, {"<a><b/>x</b>", impl.ErrSyntax, 8}, {"<a>|\r|\r</b>", impl.ErrSyntax, 6}, {" " + firstLine + "<a/>", impl.ErrSyntax, 1}, {"<a/><b/>", impl.ErrSyntax, 4}, {"<a>&none;</a>", impl.ErrNone, 3}, {"<a><b k='&none;'/></a>", impl.ErrNone, 3}, {"<a><b k='' k=''/></a>", impl.ErrThere, 3},
		{strings.Repeat("<a>", 31), impl.ErrDeep, 90}, {headed(ent("e", "&e;"), "<a>&e;</a>"), impl.ErrLoop, 35}, {headed(ent("e", strings.Repeat("x", 1001)), "<a><b/>&e;&e;&e;&e;</a>"), impl.ErrFull, 1037},
		// Of Spaced: the number of the event.
		{"<p:a/>", impl.ErrNone, 0}, {"<!--c--><a>x<b p:k=''/></a>", impl.ErrNone, 3}, {"<a><b/><a:b:c/></a>", impl.ErrSyntax, 3}, {"<a><b xmlns:p=''/></a>", impl.ErrSyntax, 1}, {"<a/><?p:q?>", impl.ErrSyntax, 2}, {"<a><b xmlns:p='u' xmlns:q='u' p:k='' q:k=''/></a>", impl.ErrThere, 1},
		{"<a>" + strings.Repeat("<b/>", 200) + "</a>", impl.ErrSize, 0}, {"<b>" + "<a" + numbered(" k$=''", 0, 61) + "/></b>", impl.ErrForm, 0},
		// Read is asked first.
		{"<p:a>", impl.ErrSyntax, 5}, {"<p:a>&none;</p:a>", impl.ErrNone, 5},
	} {
		checkLines(t, word+c.text, failed(c.code, c.at), "step", "error 4", word+c.text, failed(c.code, c.at))
	}
}

func TestNamesLines(t *testing.T) {
	for text, names := range map[string]string{
		"<a/>":                        "a@-",
		"<a><b/><c>x<d/></c></a>":     "a@- b@- c@- d@-",
		"<p:a xmlns:p='u'><b/></p:a>": "a@u b@-",
		"<a xmlns='u'><b/><c xmlns=''/><p:d xmlns:p='v'><d/></p:d></a>": "a@u b@u c@- d@v d@u",
		"<xml:a/>": "a@" + xmlSpace,
		"<!--c--><?p q?><a k='v'>x<!--d--><?r?></a><!---->":     "a@-",
		"<a xmlns='&amp;&lt;\"&#9;&#10;&#13;>'/>":               "a@&amp;&lt;&quot;&#x9;&#xA;&#xD;>",
		"<a xmlns='u v|w&#124;'/>":                              "a@u v w|",
		"<a xmlns='-'><b xmlns='@'/></a>":                       "a@- b@@",
		"<\u00e9:\u00e9 xmlns:\u00e9='\u20ac'/>":                "\u00e9@\u20ac",
		headed("<!ATTLIST a xmlns CDATA 'u'>", "<a><b/></a>"):   "a@u b@u",
		headed(ent("e", "<b/><b xmlns='v'/>"), "<a>&e;&e;</a>"): "a@- b@- b@v b@- b@v",
		"|<a|xmlns|=|'u'|>|</a|>|":                              "a@u",
		"<a>" + strings.Repeat("<b/>", 199) + "</a>":            "a@-" + strings.Repeat(" b@-", 199),
		"<a xmlns='" + strings.Repeat("u", 3000) + "'><b/></a>": "a@" + strings.Repeat("u", 3000) + " b@" + strings.Repeat("u", 3000),
	} {
		checkLines(t, "names "+text, names)
	}
	checkLines(t, "names <a/>", "a@-", "names <b/>", "b@-")
	checkDocumentFaults(t, "names ")
}

func TestSignsThatAreTold(t *testing.T) {
	checkLines(t, "feed <a k='&amp;&lt;\"&#9;&#10;&#13;>&apos; |' l=\"'=\">&amp;&lt;\"&#9;&#10;&#13;>' </a>", "ok",
		"step", "1 a k=&amp;&lt;&quot;&#x9;&#xA;&#xD;>'   l='=", "step", `3 - "&amp;&lt;&quot;&#x9;&#xA;&#xD;>' "`)
	checkLines(t, "feed <!--&lt;<\"\t|--><?p &amp;\"|?><a>", "ok", "step", `4 - "&amp;lt;&lt;&quot;&#x9;&#xA;"`, "step", `5 p "&amp;amp;&quot;&#xA;"`, "step", "1 a")
	// A `|` in a TEXT is a line feed, and one that is told is none.
	checkLines(t, "feed <a|k='|&#124;'|>||x|&#124;</a|>", "ok", "step", "1 a k= |", "step", `3 - "&#xA;&#xA;x&#xA;|"`, "step", "2 a")
	checkLines(t, "feed <a>|", "ok", "feed |", "ok", "feed x", "ok", "feed </a>", "ok", "step", "1 a", "step", `3 - "&#xA;&#xA;x"`)
	// A text of blanks, and one of a stroke.
	checkLines(t, "feed <a> <b/>-<b/>--</a>", "ok", "step", "1 a", "step", `3 - " "`, "step", "1 b", "step", "2 b", "step", `3 - "-"`, "step", "1 b", "step", "2 b", "step", `3 - "--"`)
}

// TEXT is whatever stands behind the first blank.
func TestWhateverTextIs(t *testing.T) {
	checkLines(t, "feed <a>", "ok", "feed  x ", "ok", "feed   </a>", "ok", "step", "1 a", "step", `3 - " x   "`, "step", "2 a")
	checkLines(t, "feed  "+firstLine, "ok", "step", "error 3")
	checkLines(t, "feed "+firstLine, "ok", "step", "error 4")
	checkLines(t, "canon  <a/>", "form &lt;a>&lt;/a>", "names   <a/> ", "a@-", "canon  x", "error 3 0", "names <a> </b>", "error 3 4")
	checkLines(t, "feed \t<a>\t</a>", "ok", "step", "1 a", "step", `3 - "&#x9;"`)
	// A byte 13 ends no line: it is one of TEXT.
	checkLines(t, "feed <a>\r", "ok", "feed x\r|y\ry\r", "ok", "feed |</a>\r", "ok", "step", "1 a", "step", `3 - "&#xA;x&#xA;y&#xA;y&#xA;"`, "step", "2 a")
	checkLines(t, "canon <a>\r\r|</a>\r", "form &lt;a>&#xA;&#xA;&lt;/a>", "names \r", "error 3 1", "feed \r", "ok")
	// Bytes that are no characters are for the Session, not for the desk.
	checkLines(t, "feed <a>\xff", "ok", "step", "1 a", "step", "error 4", "feed x", "ok", "step", "error 1", "close", "ok", "step", "error 1")
	checkLines(t, "feed \x80", "ok", "step", "error 1", "canon \xff", "error 1 0", "names <a>\x00</a>", "error 1 0")
	checkLines(t, "feed <a>\xe2", "ok", "feed \x82", "ok", "step", "1 a", "step", "error 4", "feed \xac</a>", "ok", "step", "3 - \"\u20ac\"", "step", "2 a")
	// The words have no meaning in it.
	checkLines(t, "feed feed <a/>", "ok", "step", "error 3", "canon canon <a/>", "error 3 0", "names close", "error 3 0")
}

func TestLinesThatAreNone(t *testing.T) {
	for _, word := range []string{"feed", "canon", "names"} {
		for _, line := range []string{word, word + "\t<a/>", word + "\r", word + "|<a/>", word + "<a/>", word + "s <a/>", word[1:] + " <a/>", word[:len(word)-1] + " <a/>", " " + word + " <a/>", "\t" + word + " <a/>", strings.ToUpper(word) + " <a/>", strings.ToUpper(word[:1]) + word[1:] + " <a/>", word + "\u00a0<a/>", word + "\xff <a/>", "\xff" + word + " <a/>", word + word + " <a/>", word + "\x00 <a/>", word + ". <a/>"} {
			checkWrongLine(t, line)
		}
	}
	for _, word := range []string{"close", "step"} {
		for _, line := range []string{word + " ", word + "  ", word + " 1", word + " " + word, word + "\t", word + "\r", word + "|", " " + word, "\r" + word, word + "s", word[1:], word[:len(word)-1], strings.ToUpper(word), strings.ToUpper(word[:1]) + word[1:], word + "\xff", "\x80" + word, word + word, word + "\x00", word + "\u00a0"} {
			checkWrongLine(t, line)
		}
	}
	for _, line := range []string{"", " ", "  ", "\r", "\t", "|", "-", "x", "<a/>", " <a/>", "ok", "error 4", "form", "desk", "next", "read <a/>", "spaced <a/>", "\xff", "\xef\xbb\xbfstep", "\u017ftep", "c lose", "# step", "step;", "step,step"} {
		checkWrongLine(t, line)
	}
}

func TestLinesWithoutTheirLineFeed(t *testing.T) {
	checkDesk(t, "", impl.DeskOut{})
	for _, last := range []string{"step", "close", "feed <a/>", "feed ", "canon <a/>", "names <a/>", "x", " ", "\r", "step\r", "|", "\xff"} {
		for lines := range 60 {
			checkDesk(t, strings.Repeat("close\n", lines)+last, impl.DeskOut{Line: int64(lines), Code: impl.ErrSyntax})
		}
		checkDesk(t, strings.Repeat("close\n", 60)+last, impl.DeskOut{Line: 60, Code: impl.ErrSyntax})
		checkDesk(t, strings.Repeat("close\n", 61)+last, impl.DeskOut{Line: 60, Code: impl.ErrSyntax})
		checkDesk(t, "close\nclose \nclose\n"+last, impl.DeskOut{Line: 1, Code: impl.ErrSyntax})
	}
}

func TestManyLines(t *testing.T) {
	for _, c := range []struct {
		line string
		told string
	}{{"step\n", "error 4\n"}, {"close\n", "ok\n"}, {"feed x\n", "ok\n"}, {"canon <a/>\n", "form &lt;a>&lt;/a>\n"}, {"names <a/>\n", "a@-\n"}} {
		for lines := range 61 {
			checkDesk(t, strings.Repeat(c.line, lines), impl.DeskOut{Text: strings.Repeat(c.told, lines)})
		}
		for _, lines := range []int{61, 62, 100, 120, 200} {
			checkDesk(t, strings.Repeat(c.line, lines), impl.DeskOut{Line: 60, Code: impl.ErrSyntax})
		}
		// The first wrong line counts: one ahead of the 61st, not one behind it.
		for wrong := range 64 {
			text := strings.Repeat(c.line, wrong) + "wrong\n" + strings.Repeat(c.line, 64-wrong)
			checkDesk(t, text, impl.DeskOut{Line: int64(min(wrong, 60)), Code: impl.ErrSyntax})
		}
		checkDesk(t, strings.Repeat(c.line, 59)+"wrong\n", impl.DeskOut{Line: 59, Code: impl.ErrSyntax})
		checkDesk(t, strings.Repeat(c.line, 60)+"\n", impl.DeskOut{Line: 60, Code: impl.ErrSyntax})
	}
	if impl.MaxDesk != 60 {
		t.Errorf("MaxDesk is %d", impl.MaxDesk)
	}
}

func TestDeskOf4000Bytes(t *testing.T) {
	x := strings.Repeat("x", 4000)
	checkDesk(t, "feed "+x[:3994]+"\n", impl.DeskOut{Text: "ok\n"})
	checkDesk(t, "canon <a>"+x[:3986]+"</a>\n", impl.DeskOut{Text: "form &lt;a>" + x[:3986] + "&lt;/a>\n"})
	checkDesk(t, "feed <a>"+x[:3976]+"</a>\nstep\nstep\n", impl.DeskOut{Text: "ok\n1 a\n3 - \"" + x[:3976] + "\"\n"})
	checkDesk(t, x, impl.DeskOut{Code: impl.ErrSyntax})
	checkDesk(t, "step\n"+x[:3995], impl.DeskOut{Line: 1, Code: impl.ErrSyntax})
	checkDesk(t, strings.Repeat("step\n", 800), impl.DeskOut{Line: 60, Code: impl.ErrSyntax})
	checkDesk(t, strings.Repeat("\n", 4000), impl.DeskOut{Code: impl.ErrSyntax})
	// One more is refused ahead of all else.
	for _, text := range []string{"feed " + x[:3995] + "\n", "feed " + x[:3996], x + "x", x + x, strings.Repeat("\n", 4001), strings.Repeat("step\n", 801), "wrong\n" + x, strings.Repeat("\xff", 4001), "canon <a>" + x[:3987] + "</a>\n", fullLines + strings.Repeat("step\n", 700)} {
		if len(text) <= 4000 {
			t.Errorf("%.100q has %d bytes", text, len(text))
		}
		checkDesk(t, text, impl.DeskOut{Code: impl.ErrSize})
	}
}

// telling: a line that tells so many bytes, with its line feed, and what it tells.
func telling(size int) (string, string) {
	signs, rest := (size-19)/6, strings.Repeat("x", (size-19)%6)
	quotes := strings.Repeat("\"", signs%60) + rest
	text := "<!DOCTYPE a [<!ENTITY e '" + strings.Repeat("\"", 60) + "'>]><a>" + strings.Repeat("&e;", signs/60) + quotes + "</a>"
	return "canon " + text + "\n", "form &lt;a>" + strings.Repeat("&quot;", signs) + rest + "&lt;/a>\n"
}

// tellingAll: lines that tell so many bytes each.
func tellingAll(sizes ...int) (string, string) {
	text, told := "", ""
	for _, size := range sizes {
		line, itsTold := telling(size)
		text += line
		told += itsTold
	}
	return text, told
}

var fullLines, _ = tellingAll(20000, 20000, 20001)

func TestWhatIsToldIsFull(t *testing.T) {
	for size := 19; size < 40; size++ {
		line, told := telling(size)
		if len(told) != size {
			t.Fatalf("%q has %d bytes", told, len(told))
		}
		checkDesk(t, line, impl.DeskOut{Text: told})
	}
	for _, sizes := range [][]int{{20000, 20000, 20000}, {23000, 23000, 14000}, {25, 22975, 15000, 22000}, {59, 22941, 20000, 16975, 25}} {
		text, told := tellingAll(sizes...)
		if len(told) != 60000 || len(text) > 3000 {
			t.Fatalf("%v: %d bytes tell %d", sizes, len(text), len(told))
		}
		checkDesk(t, text, impl.DeskOut{Text: told})
		for _, more := range []string{"close\n", "step\n", "feed \n", "names <a/>\n", "canon x\n"} {
			checkDesk(t, text+more, impl.DeskOut{Code: impl.ErrFull})
			checkDesk(t, more+text, impl.DeskOut{Code: impl.ErrFull})
		}
		for i := range sizes {
			more := slices.Clone(sizes)
			for _, size := range []int{sizes[i] - 1, sizes[i] + 1, sizes[i] + 2, sizes[i] + 60} {
				more[i] = size
				text, told = tellingAll(more...)
				want := impl.DeskOut{Text: told}
				if len(told) > 60000 {
					want = impl.DeskOut{Code: impl.ErrFull}
				}
				checkDesk(t, text, want)
			}
		}
	}
	// What short lines tell counts as well, wherever they stand.
	text, told := tellingAll(22000, 21000, 17000-3*56)
	checkDesk(t, strings.Repeat("close\n", 50)+text+strings.Repeat("feed \n", 2), impl.DeskOut{Text: strings.Repeat("ok\n", 50) + told + strings.Repeat("error 10\n", 2)})
	checkDesk(t, strings.Repeat("close\n", 51)+text+strings.Repeat("feed \n", 2), impl.DeskOut{Code: impl.ErrFull})
	checkDesk(t, strings.Repeat("close\n", 56)+text, impl.DeskOut{Text: strings.Repeat("ok\n", 56) + told})
	checkDesk(t, strings.Repeat("close\n", 57)+text, impl.DeskOut{Code: impl.ErrFull})
	checkDesk(t, text+strings.Repeat("close\n", 56), impl.DeskOut{Text: told + strings.Repeat("ok\n", 56)})
	checkDesk(t, text+strings.Repeat("close\n", 57), impl.DeskOut{Code: impl.ErrFull})
}

func TestEventsFillWhatIsTold(t *testing.T) {
	fed := "feed " + headed("<!ENTITY e '"+strings.Repeat("\"", 100)+"'>", "<a k='"+strings.Repeat("&e;", 20)+"'>"+strings.Repeat("&e;", 20)+"<b/>") + "\n"
	quotes := strings.Repeat("&quot;", 2000)
	first, second := "ok\n1 a k="+quotes+"\n", "3 - \""+quotes+"\"\n"
	room := 60000 - len(first) - len(second)
	text, told := tellingAll(18000, room-18000)
	checkDesk(t, fed+"step\nstep\n"+text, impl.DeskOut{Text: first + second + told})
	checkDesk(t, text+fed+"step\nstep\n", impl.DeskOut{Text: told + first + second})
	checkDesk(t, fed+"step\n"+text+"step\n", impl.DeskOut{Text: first + told + second})
	text, _ = tellingAll(18000, room-18000+1)
	checkDesk(t, fed+"step\nstep\n"+text, impl.DeskOut{Code: impl.ErrFull})
	checkDesk(t, text+fed+"step\nstep\n", impl.DeskOut{Code: impl.ErrFull})
	checkDesk(t, text+fed+"step\nstep \n", impl.DeskOut{Line: 4, Code: impl.ErrSyntax})
}

// By references a text, a value and a space may have more than 4000 bytes, of which EscapeValue is the empty text.
func TestMoreThanEscapeValueTakes(t *testing.T) {
	head := "<!ENTITY e '" + strings.Repeat("x", 500) + "'>"
	eight := strings.Repeat("&e;", 8)
	all := strings.Repeat("x", 4000)
	checkLines(t, "feed "+headed(head, "<a>"+eight+"</a>"), "ok", "step", "1 a", "step", `3 - "`+all+`"`, "step", "2 a")
	checkLines(t, "feed "+headed(head, "<a>"+eight+"y</a>"), "ok", "step", "1 a", "step", `3 - ""`, "step", "2 a")
	checkLines(t, "feed "+headed(head, "<a k='"+eight+"' l=''/>"), "ok", "step", "1 a k="+all+" l=", "step", "2 a")
	checkLines(t, "feed "+headed(head, "<a k='"+eight+"y' l='1'/>"), "ok", "step", "1 a k= l=1", "step", "2 a")
	checkLines(t, "names "+headed(head, "<a xmlns='"+eight+"'/>"), "a@"+all)
	checkLines(t, "names "+headed(head, "<a xmlns='"+eight+"y'><b xmlns=''/></a>"), "a@ b@-")
	checkLines(t, "canon "+headed(head, "<a>"+eight+"</a>"), "error 7 0")
}

// The first named fault is told: the size, a line, what is told.
func TestDeskOrderOfFaults(t *testing.T) {
	checkDesk(t, fullLines, impl.DeskOut{Code: impl.ErrFull})
	checkDesk(t, fullLines+"step", impl.DeskOut{Line: 3, Code: impl.ErrSyntax})
	checkDesk(t, fullLines+"wrong\n", impl.DeskOut{Line: 3, Code: impl.ErrSyntax})
	checkDesk(t, "wrong\n"+fullLines, impl.DeskOut{Code: impl.ErrSyntax})
	checkDesk(t, fullLines+strings.Repeat("step\n", 56)+"step \n", impl.DeskOut{Line: 59, Code: impl.ErrSyntax})
	checkDesk(t, fullLines+strings.Repeat("step\n", 57), impl.DeskOut{Code: impl.ErrFull})
	checkDesk(t, fullLines+strings.Repeat("step\n", 58), impl.DeskOut{Line: 60, Code: impl.ErrSyntax})
	checkDesk(t, fullLines+"step\nclose \n"+strings.Repeat("step\n", 58), impl.DeskOut{Line: 4, Code: impl.ErrSyntax})
	checkDesk(t, fullLines+"wrong\n"+strings.Repeat("x", 4000), impl.DeskOut{Code: impl.ErrSize})
	// What a line tells of a fault is no fault of the desk.
	checkDesk(t, "canon x\nnames \nstep\nfeed </a>\nstep\n", impl.DeskOut{Text: "error 3 0\nerror 3 0\nerror 4\nok\nerror 3\n"})
}

// A line that tells an error leaves the Session as it was, and so does one that is for no Session.
func TestErrorsLeaveTheSession(t *testing.T) {
	others := []string{"canon <b/>", "form &lt;b>&lt;/b>", "names <b/>", "b@-", "canon </b>", "error 3 0", "names <p:b/>", "error 5 0"}
	var lines []string
	for _, pair := range [][]string{{"feed <a>x<!--c-->", "ok"}, {"step", "1 a"}, {"step", `3 - "x"`}, {"step", `4 - "c"`}, {"step", "error 4"}, {"step", "error 4"}, {"feed y</a>", "ok"}, {"step", `3 - "y"`}, {"close", "ok"}, {"feed z", "error 10"}, {"step", "2 a"}, {"step", "error 10"}} {
		lines = append(append(lines, pair...), others[:4]...)
		others = append(others[4:], others[:4]...)
	}
	checkLines(t, lines...)
	// Nothing is kept from one desk to the next.
	checkLines(t, "feed <a>", "ok", "step", "1 a")
	checkLines(t, "step", "error 4", "feed <b>", "ok", "step", "1 b")
}

func TestDeskWords(t *testing.T) {
	want := []string{"canon", "close", "feed", "names", "step"}
	got := impl.DeskWords()
	if !slices.Equal(got, want) {
		t.Fatalf("DeskWords: got %q", got)
	}
	// A list of its own each time.
	got[0], got[4] = "x", "y"
	_ = append(got[:1], "z")
	if again := impl.DeskWords(); !slices.Equal(again, want) {
		t.Errorf("DeskWords, again: got %q", again)
	}
	may := func(word string) bool {
		return impl.DeskFault(word+"\n").Code == impl.OK || impl.DeskFault(word+" <a/>\n").Code == impl.OK
	}
	for _, word := range want {
		if !may(word) {
			t.Errorf("a line may begin with %q", word)
		}
		for i := range word {
			for _, other := range []string{word[:i], word[i+1:], word[:i] + word[i+1:], word[:i] + "x" + word[i:], word[:i] + strings.ToUpper(word[i:i+1]) + word[i+1:], word[:i] + "\xff" + word[i+1:], word + word[i:], word[i:] + "-"} {
				if may(other) && !slices.Contains(want, other) {
					t.Errorf("a line may not begin with %q", other)
				}
			}
		}
	}
	letters := strings.Split("a c d e f l m n o p s t", " ")
	everyText("", letters, 5, func(word string) {
		if may(word) != slices.Contains(want, word) {
			t.Fatalf("may a line begin with %q? got %v", word, may(word))
		}
	})
}
