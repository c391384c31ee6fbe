package tests

import (
	"math"
	"reflect"
	"strconv"
	"strings"
	"testing"
	"unicode/utf8"

	"loop.example/g00352/impl"
)

func checkStepOut(t *testing.T, what string, got impl.StepOut, want impl.StepOut) {
	t.Helper()
	got.Event, want.Event = plainEvents(events(got.Event))[0], plainEvents(events(want.Event))[0]
	if !reflect.DeepEqual(got, want) {
		t.Fatalf("%s:\n got %+v\nwant %+v", what, got, want)
	}
}

// fedWith, closedOf, steppedOver: what a right session is behind a call, which is right again.
func fedWith(t *testing.T, s impl.Session, text string) impl.Session {
	t.Helper()
	next := impl.Session{Text: s.Text + text, Closed: s.Closed, Told: s.Told}
	checkStepOut(t, "Feed", impl.Feed(s, text), impl.StepOut{Session: next})
	checkRight(t, next, true)
	return next
}

func closedOf(t *testing.T, s impl.Session) impl.Session {
	t.Helper()
	next := impl.Session{Text: s.Text, Closed: true, Told: s.Told}
	checkStepOut(t, "Close", impl.Close(s), impl.StepOut{Session: next})
	checkRight(t, next, true)
	return next
}

func steppedOver(t *testing.T, s impl.Session, want impl.Event) impl.Session {
	t.Helper()
	next := impl.Session{Text: s.Text, Closed: s.Closed, Told: s.Told + 1}
	checkStepOut(t, "Step", impl.Step(s), impl.StepOut{Session: next, Event: want})
	checkRight(t, next, true)
	return next
}

func checkRight(t *testing.T, s impl.Session, want bool) {
	t.Helper()
	if impl.SessionRight(s) != want {
		t.Fatalf("SessionRight of %.200q (%d bytes), closed %v, told %d: got %v", s.Text, len(s.Text), s.Closed, s.Told, !want)
	}
}

// checkSteps: these events come step by step, then this code, again and again; the session that told all is handed out.
func checkSteps(t *testing.T, s impl.Session, code int64, want ...impl.Event) impl.Session {
	t.Helper()
	for _, e := range want {
		s = steppedOver(t, s, e)
	}
	for range 2 {
		checkStepOut(t, "Step at the end of "+strconv.Quote(s.Text), impl.Step(s), impl.StepOut{Code: code})
	}
	return s
}

// checkThere: what there is of a text, with every number of events told, and with too few and too many.
func checkThere(t *testing.T, text string, closed bool, code int64, want ...impl.Event) {
	t.Helper()
	n := int64(len(want))
	for told := int64(0); told <= n; told++ {
		s := impl.Session{Text: text, Closed: closed, Told: told}
		checkRight(t, s, true)
		checkSteps(t, s, code, want[told:]...)
	}
	for _, told := range []int64{math.MinInt64, -2, -1, n + 1, n + 2, math.MaxInt64} {
		checkWrongSession(t, impl.Session{Text: text, Closed: closed, Told: told})
	}
}

func checkWrongSession(t *testing.T, s impl.Session) {
	t.Helper()
	checkRight(t, s, false)
	checkStepOut(t, "Step", impl.Step(s), impl.StepOut{Code: impl.ErrForm})
	checkStepOut(t, "Close", impl.Close(s), impl.StepOut{Code: impl.ErrForm})
	for _, text := range []string{"", "x", strings.Repeat("x", 4000)} {
		checkStepOut(t, "Feed", impl.Feed(s, text), impl.StepOut{Code: impl.ErrForm})
	}
	checkStepOut(t, "Feed", impl.Feed(s, strings.Repeat("x", 4001)), impl.StepOut{Code: impl.ErrSize})
}

// toldYet: all that a session has to tell yet, and its code.
func toldYet(t *testing.T, s impl.Session) (impl.Session, []impl.Event, int64) {
	t.Helper()
	var l []impl.Event
	for {
		out := impl.Step(s)
		if out.Code != impl.OK {
			checkStepOut(t, "Step with a code", out, impl.StepOut{Code: out.Code})
			return s, l, out.Code
		}
		s = steppedOver(t, s, out.Event)
		l = append(l, out.Event)
	}
}

// checkParts, promise 10: parts that are fed, with steps between or without, tell all events, each once, in order.
func checkParts(t *testing.T, parts []string, code int64, want []impl.Event) {
	t.Helper()
	for _, between := range []bool{false, true} {
		var s impl.Session
		var all, some []impl.Event
		for _, p := range parts {
			s = fedWith(t, s, p)
			if between {
				s, some, _ = toldYet(t, s)
				all = append(all, some...)
			}
		}
		s, some, got := toldYet(t, closedOf(t, s))
		all = append(all, some...)
		if got != code || s.Told != int64(len(want)) || !reflect.DeepEqual(plainEvents(all), plainEvents(want)) {
			t.Fatalf("fed with %q, steps between %v:\n got %d, %+v\nwant %d, %+v", parts, between, got, all, code, want)
		}
	}
}

// checkParted: a text in one part, in two wherever it is parted, byte by byte, and some bytes at a time.
func checkParted(t *testing.T, text string, code int64, want []impl.Event) {
	t.Helper()
	checkParts(t, []string{text}, code, want)
	for i := range len(text) {
		checkParts(t, []string{text[:i], text[i:]}, code, want)
	}
	for size := 1; size < 6; size++ {
		checkParts(t, inParts(text, size), code, want)
	}
}

func inParts(text string, size int) []string {
	var parts []string
	for len(text) > size {
		parts = append(parts, text[:size])
		text = text[size:]
	}
	return append(parts, text)
}

// Promise 10.
func TestDocumentsFedInParts(t *testing.T) {
	t.Parallel()
	for _, l := range documents {
		text := textOf(l)
		checkParted(t, text, impl.ErrEnd, toldBy(l))
		if strings.Contains(text, "\n") {
			checkParted(t, strings.ReplaceAll(text, "\n", "\r\n"), impl.ErrEnd, toldBy(l))
			checkParted(t, strings.ReplaceAll(text, "\n", "\r"), impl.ErrEnd, toldBy(l))
		}
	}
	// Characters of two, three and four bytes in names, values, texts and all other marks.
	signs := "\u00e9\u20ac\U0001F600"
	checkParted(t, encodedLine+"\r\n<!--"+signs+"--><?"+signs+" "+signs+"?><!DOCTYPE a ["+ent(signs, signs)+"]><"+signs+" "+signs+"='"+signs+"\r\n'>\r\n"+signs+"&"+signs+";<![CDATA["+signs+"]]></"+signs+">\r\n", impl.ErrEnd,
		events(remark(signs), order(signs, signs), start(signs, signs, signs+" "), words("\n"+signs+signs+signs), end(signs)))
	checkParted(t, "\r\n\r\r\n<a\r\n\rk='\r\r\n'\r>\n\r\r\n\r</a\r>\r\r\n", impl.ErrEnd, events(start("a", "k", "  "), words("\n\n\n\n"), end("a")))
}

// Promise 10, in three parts, wherever it is parted.
func TestDocumentsFedInThreeParts(t *testing.T) {
	for _, c := range []struct {
		text string
		want []impl.Event
	}{
		{"<a>\u20ac\r\n&lt;<b k='\U0001F600'/></a>", events(start("a"), words("\u20ac\n<"), start("b", "k", "\U0001F600"), end("b"), end("a"))},
		{firstLine + "\r\n<a/>\r", events(start("a"), end("a"))},
		{"<!DOCTYPE a [" + ent("e", "x<b/>") + "]><a>&e;</a>", events(start("a"), words("x"), start("b"), end("b"), end("a"))},
	} {
		for i := range len(c.text) {
			for j := i; j < len(c.text); j++ {
				checkParts(t, []string{c.text[:i], c.text[i:j], c.text[j:]}, impl.ErrEnd, c.want)
			}
		}
	}
}

// A document with a fault tells the events ahead of it, and then its code.
func TestWrongDocumentsFedInParts(t *testing.T) {
	t.Parallel()
	met := map[int64]int{}
	for _, text := range []string{
		"", " \r\n", "x", "<a", "<a>", "<a>x", "<a><b/>x", "<a>x</b>", "<a/>x", "<a/>\r\n<b/>", "<a>x<b/>]]></a>", "<a><!--c--><?xml?></a>", "<a><!--\u20ac--->", "</a>", "<a/><!DOCTYPE a>", "<!-->", "<?xml version='1.0'?><a/>", encodedLine[:30] + "'UTF-8'?><a/>", "\r\n" + firstLine + "<a/>",
		"<a>&none;<b/></a>", "<a><b/>x&none;</a>", "<a><b k='&none;'/></a>", "<a>&lt</a>", "<a k='1' j='' k='2'/>", "<!--c--><a><b k='' k=''>", headed("<!ENTITY e>", "<a/>"), "<!--c-->" + headed(numbered(ent("e$", ""), 0, 41), "<a/>"),
		headed(ent("e", "<b/>&e;"), "<a>x&e;</a>"), headed(ent("e", "<b/>&f;</b>")+ent("f", "y"), "<a>x&e;</a>"), headed(ent("e", "&#13;"), "<a><b/>&e;</a>"), headed(ent("e", strings.Repeat("&#x41;", 20))+ent("f", strings.Repeat("&e;", 20)), "<a>&f;<b/>"+strings.Repeat("&f;", 8)+"</a>"),
		nested(31, "x"), nested(30, "<!--\u20ac-->"),
	} {
		whole := impl.Read(text, true)
		code := whole.Code
		if code == impl.OK {
			code = impl.ErrEnd
		}
		met[code]++
		checkParted(t, text, code, whole.Events)
	}
	checkMet(t, met, impl.ErrEnd, impl.ErrForm, impl.ErrSyntax, impl.ErrNone, impl.ErrThere, impl.ErrFull, impl.ErrDeep, impl.ErrLoop)
}

// What stands behind `<` at the end of a text tells by its code what is read of it.
var tails = []struct {
	text   string
	open   int64
	closed int64
}{
	{"", impl.ErrShort, impl.ErrSyntax},
	// Two bytes: one of them, a whole character (one that no name has, one of a name), and one byte too many.
	{"\xc3", impl.ErrShort, impl.ErrForm}, {"\xdf", impl.ErrShort, impl.ErrForm}, {"\xc3\x97", impl.ErrSyntax, impl.ErrSyntax}, {"\xc3\xa9", impl.ErrShort, impl.ErrSyntax}, {"\xc3\x97\x80", impl.ErrSyntax, impl.ErrSyntax}, {"\xc3\xa9\x80", impl.ErrForm, impl.ErrForm}, {"\xc3\xa9\xbf\xbf", impl.ErrForm, impl.ErrForm},
	// Three bytes.
	{"\xe2", impl.ErrShort, impl.ErrForm}, {"\xef", impl.ErrShort, impl.ErrForm}, {"\xe2\x86", impl.ErrShort, impl.ErrForm}, {"\xe2\x86\x90", impl.ErrSyntax, impl.ErrSyntax}, {"\xe2\x82\xac", impl.ErrShort, impl.ErrSyntax}, {"\xe2\x86\x90\x80", impl.ErrSyntax, impl.ErrSyntax}, {"\xe2\x82\xac\x80", impl.ErrForm, impl.ErrForm},
	// Four bytes.
	{"\xf3", impl.ErrShort, impl.ErrForm}, {"\xf3\xb0", impl.ErrShort, impl.ErrForm}, {"\xf3\xb0\x80", impl.ErrShort, impl.ErrForm}, {"\xf3\xb0\x80\x80", impl.ErrSyntax, impl.ErrSyntax}, {"\xf0\x9f\x98\x80", impl.ErrShort, impl.ErrSyntax}, {"\xf3\xb0\x80\x80\x80", impl.ErrSyntax, impl.ErrSyntax}, {"\xf0\x9f\x98\x80\x80", impl.ErrForm, impl.ErrForm},
	// Bytes 128 to 191 alone, behind nothing that they could go with.
	{"\x80", impl.ErrForm, impl.ErrForm}, {"\xbf", impl.ErrForm, impl.ErrForm}, {"\x80\x80\x80", impl.ErrForm, impl.ErrForm}, {"a\x80", impl.ErrForm, impl.ErrForm}, {"?\xbf\xbf", impl.ErrForm, impl.ErrForm}, {"\x7f\x80", impl.ErrSyntax, impl.ErrSyntax},
	// A first byte with which no character begins, or not with what follows, is left away until it has its bytes.
	{"\xc0", impl.ErrShort, impl.ErrForm}, {"\xc0\x80", impl.ErrForm, impl.ErrForm}, {"\xc1\xbf", impl.ErrForm, impl.ErrForm}, {"\xe0\x80", impl.ErrShort, impl.ErrForm}, {"\xe0\x80\x80", impl.ErrForm, impl.ErrForm}, {"\xed\xa0", impl.ErrShort, impl.ErrForm}, {"\xed\xa0\x80", impl.ErrForm, impl.ErrForm}, {"\xef\xbf", impl.ErrShort, impl.ErrForm}, {"\xef\xbf\xbe", impl.ErrForm, impl.ErrForm},
	{"\xf0\x80\x80", impl.ErrShort, impl.ErrForm}, {"\xf0\x80\x80\x80", impl.ErrForm, impl.ErrForm}, {"\xf4\x90", impl.ErrShort, impl.ErrForm}, {"\xf4\x90\x80\x80", impl.ErrForm, impl.ErrForm}, {"\xf5", impl.ErrShort, impl.ErrForm}, {"\xf8\x80\x80", impl.ErrShort, impl.ErrForm}, {"\xf8\x80\x80\x80", impl.ErrForm, impl.ErrForm}, {"\xff", impl.ErrShort, impl.ErrForm}, {"\xff\xbf\xbf", impl.ErrShort, impl.ErrForm}, {"\xff\x80\x80\x80", impl.ErrForm, impl.ErrForm},
	// Just the last of them is left away, and just if it is at the end.
	{"\xff\xff", impl.ErrForm, impl.ErrForm}, {"\xc3\xc3", impl.ErrForm, impl.ErrForm}, {"\xe2\x82\xc3", impl.ErrForm, impl.ErrForm}, {"\xc3a", impl.ErrForm, impl.ErrForm}, {"\xff ", impl.ErrForm, impl.ErrForm}, {"\xe2\x82<", impl.ErrForm, impl.ErrForm}, {"a\xc3", impl.ErrShort, impl.ErrForm}, {">\xc3", impl.ErrSyntax, impl.ErrSyntax}, {"!\xe2\x82", impl.ErrShort, impl.ErrForm},
	// A byte 13, one alone; it is a line's end if anything follows.
	{"\r", impl.ErrShort, impl.ErrSyntax}, {"a/\r", impl.ErrShort, impl.ErrSyntax}, {"a\r", impl.ErrShort, impl.ErrSyntax}, {"\r\r", impl.ErrSyntax, impl.ErrSyntax}, {"\r\n", impl.ErrSyntax, impl.ErrSyntax}, {"\n\r", impl.ErrSyntax, impl.ErrSyntax}, {"\ra", impl.ErrSyntax, impl.ErrSyntax}, {"\r\xc3", impl.ErrSyntax, impl.ErrSyntax}, {"\xc3\r", impl.ErrForm, impl.ErrForm}, {"\xe2\x82\r", impl.ErrForm, impl.ErrForm}, {"\xc3\x97\r", impl.ErrSyntax, impl.ErrSyntax}, {"a\r\xf0\x9f", impl.ErrShort, impl.ErrForm},
	// Numbers that are no characters are no beginnings.
	{"\x00", impl.ErrForm, impl.ErrForm}, {"\x08", impl.ErrForm, impl.ErrForm}, {"\x0b", impl.ErrForm, impl.ErrForm}, {"\x1f", impl.ErrForm, impl.ErrForm}, {"a\x00", impl.ErrForm, impl.ErrForm},
}

func TestEndsOfWhatWasFed(t *testing.T) {
	t.Parallel()
	for _, c := range tails {
		for _, ahead := range documents[6:9] {
			for n := range ahead {
				text := textOf(ahead[:n]) + "<" + c.text
				checkThere(t, text, false, c.open, toldBy(ahead[:n])...)
				checkThere(t, text, true, c.closed, toldBy(ahead[:n])...)
			}
		}
	}
}

// The first line, of which no beginning is a mark.
func TestFirstLineAsItComes(t *testing.T) {
	for _, line := range []string{firstLine, encodedLine} {
		for size := range line {
			checkThere(t, line[:size], false, impl.ErrShort)
			checkThere(t, line[:size], true, impl.ErrSyntax)
			checkThere(t, line[:size]+"\r", false, impl.ErrShort)
			checkThere(t, line[:size]+"\xe2\x82", false, impl.ErrShort)
			checkThere(t, line[:size]+"\xe2\x82", true, impl.ErrForm)
			checkThere(t, line[:size]+"\x80", false, impl.ErrForm)
			// Up to there a mark might begin as well.
			if size > 4 {
				checkThere(t, line[:size]+"\r\n", false, impl.ErrSyntax)
			}
		}
		checkThere(t, line+"\r", false, impl.ErrShort)
		checkThere(t, line+"\x80", false, impl.ErrForm)
	}
}

// A byte with which no character begins, wherever it stands: what is ahead of it is told, and no more.
func TestWrongBytesInADocument(t *testing.T) {
	for _, l := range documents {
		text := textOf(l)
		for i := 0; i <= len(text); i++ {
			ahead := i
			for !utf8.ValidString(text[:ahead]) {
				ahead--
			}
			want := cutDocument(l, ahead, false).Events
			for _, wrong := range []string{"\xff\xff", "\x80", "\x01", "\xed\xa0\x80"} {
				// Behind the first bytes of a character such a byte may make it whole.
				if wrong == "\x80" && ahead < i {
					continue
				}
				for _, closed := range []bool{false, true} {
					checkTold(t, impl.Session{Text: text[:i] + wrong + text[i:], Closed: closed}, impl.ErrForm, want)
					checkTold(t, impl.Session{Text: text[:i] + wrong, Closed: closed}, impl.ErrForm, want)
				}
			}
		}
		checkTold(t, impl.Session{Text: text + "\xff"}, impl.ErrShort, cutDocument(l, len(text), false).Events)
		checkTold(t, impl.Session{Text: text + "\xff", Closed: true}, impl.ErrForm, cutDocument(l, len(text), false).Events)
	}
	// A fault ahead of it is told in its place.
	for _, tail := range []string{"\xff", "\xff\xff", "\x80", "\x00</a>"} {
		for _, closed := range []bool{false, true} {
			checkThere(t, "<a><b/></b>"+tail, closed, impl.ErrSyntax, start("a"), start("b"), end("b"))
			checkThere(t, "<a>&none;<"+tail, closed, impl.ErrNone, start("a"))
			checkThere(t, "<a><b k='' k=''"+tail, closed, impl.ErrThere, start("a"))
			checkThere(t, nested(30, "<a>"+tail), closed, impl.ErrDeep, manyEvents(start("a"), 30)...)
		}
	}
	// One that stands in what was not read yet lets it be read no more.
	checkThere(t, "<a>&none;\x80</a>", true, impl.ErrForm, start("a"))
	checkThere(t, "<a>&none;\x80</a>", false, impl.ErrForm, start("a"))
}

func checkTold(t *testing.T, s impl.Session, code int64, want []impl.Event) {
	t.Helper()
	_, l, got := toldYet(t, s)
	if got != code || !reflect.DeepEqual(plainEvents(l), plainEvents(want)) {
		t.Fatalf("%q, closed %v:\n got %d, %+v\nwant %d, %+v", s.Text, s.Closed, got, l, code, want)
	}
}

func TestTold(t *testing.T) {
	for _, l := range documents {
		checkThere(t, textOf(l), true, impl.ErrEnd, toldBy(l)...)
		checkThere(t, textOf(l)+"<", false, impl.ErrShort, toldBy(l)...)
	}
	checkThere(t, "", false, impl.ErrShort)
	checkThere(t, "", true, impl.ErrSyntax)
	checkThere(t, "<a>x", false, impl.ErrShort, start("a"))
	checkThere(t, "<a>x<", false, impl.ErrShort, start("a"))
	checkThere(t, "<a>x</a>", false, impl.ErrShort, start("a"), words("x"), end("a"))
	checkThere(t, "<a>x</a>y", false, impl.ErrShort, start("a"), words("x"), end("a"))
	checkThere(t, "<a>x</a>y", true, impl.ErrSyntax, start("a"), words("x"), end("a"))
	// More events than a list that is handed in may have.
	many := append(events(start("a")), manyEvents(remark(""), 500)...)
	checkTold(t, impl.Session{Text: "<a>" + strings.Repeat("<!---->", 500)}, impl.ErrShort, many)
	checkTold(t, impl.Session{Text: "<a>" + strings.Repeat("<!---->", 500) + "</a>", Closed: true, Told: 501}, impl.ErrEnd, events(end("a")))
}

func TestSessionLimits(t *testing.T) {
	x := strings.Repeat("x", 3993)
	whole := "<a>" + x + "</a>"
	want := events(start("a"), words(x), end("a"))
	checkThere(t, whole, true, impl.ErrEnd, want...)
	checkThere(t, whole, false, impl.ErrShort, want...)
	for _, closed := range []bool{false, true} {
		for _, told := range []int64{-1, 0, 1, 4} {
			checkWrongSession(t, impl.Session{Text: whole + " ", Closed: closed, Told: told})
			checkWrongSession(t, impl.Session{Text: strings.Repeat("\x80", 4001), Closed: closed, Told: told})
		}
		checkThere(t, strings.Repeat("\xff", 4000), closed, impl.ErrForm)
	}
	// What is left away at the end counts too.
	checkThere(t, whole[:3997]+"\xf0\x9f\x98", false, impl.ErrShort, start("a"))
	checkWrongSession(t, impl.Session{Text: whole[:3998] + "\xf0\x9f\x98"})
	checkThere(t, whole[:3999]+"\r", false, impl.ErrShort, start("a"))
	checkWrongSession(t, impl.Session{Text: whole + "\r"})
}

func TestFeedUpToTheLimit(t *testing.T) {
	x := strings.Repeat("x", 4001)
	fedWith(t, impl.Session{}, "")
	fedWith(t, impl.Session{}, x[:4000])
	checkStepOut(t, "Feed of 4001 bytes", impl.Feed(impl.Session{}, x), impl.StepOut{Code: impl.ErrSize})
	for _, s := range []impl.Session{{}, {Text: "<"}, {Text: "<a>x<!---->", Told: 2}, {Text: "<a>\xe2\x82", Told: 1}, {Text: "<a>\r"}, {Text: "<a></b>\xff\xff", Told: 1}, {Text: "<a>" + x[:3997], Told: 1}} {
		left := 4000 - len(s.Text)
		fedWith(t, s, "")
		fedWith(t, s, x[:left])
		fedWith(t, s, strings.Repeat("\xff", left))
		fedWith(t, fedWith(t, s, x[:left]), "")
		checkStepOut(t, "Feed of one more", impl.Feed(s, x[:left+1]), impl.StepOut{Code: sizeOr(left+1, impl.ErrFull)})
		checkStepOut(t, "Feed behind all", impl.Feed(fedWith(t, s, x[:left]), "x"), impl.StepOut{Code: impl.ErrFull})
		checkStepOut(t, "Feed of 4001 bytes", impl.Feed(s, x), impl.StepOut{Code: impl.ErrSize})
	}
}

func sizeOr(size int, code int64) int64 {
	if size > 4000 {
		return impl.ErrSize
	}
	return code
}

// A session that is Closed takes nothing more, not even nothing; it may be closed again.
func TestClosed(t *testing.T) {
	x := strings.Repeat("x", 4001)
	for _, s := range []impl.Session{{}, {Text: "<a/>"}, {Text: "<a/>", Told: 2}, {Text: "<a>x", Told: 1}, {Text: "<a>\xe2\x82", Told: 1}, {Text: "<a></b>", Told: 1}, {Text: "\xff"}, {Text: x[:4000]}} {
		closed := closedOf(t, s)
		if closedOf(t, closed) != closed {
			t.Errorf("Close of what is Closed: %v", closed)
		}
		for _, text := range []string{"", "x", "\xff", x[:4000]} {
			checkStepOut(t, "Feed of what is Closed", impl.Feed(closed, text), impl.StepOut{Code: impl.ErrEnd})
		}
		checkStepOut(t, "Feed of 4001 bytes", impl.Feed(closed, x), impl.StepOut{Code: impl.ErrSize})
		closed.Told = 3
		checkWrongSession(t, closed)
		closed.Told = -1
		checkWrongSession(t, closed)
	}
	// One that Close has made, with another Text.
	s := closedOf(t, impl.Session{Text: "<a><b/></a>", Told: 3})
	s.Text = "<a>\xff<b/></a>"
	checkWrongSession(t, s)
}

// What is not sure at the end of an open text is wrong at the end of a closed one; what was told stays.
func TestCloseKeepsSessionsRight(t *testing.T) {
	for _, c := range tails {
		s := checkSteps(t, impl.Session{Text: "<a><b/>x<" + c.text}, c.open, start("a"), start("b"), end("b"))
		checkSteps(t, closedOf(t, s), c.closed)
		s = checkSteps(t, impl.Session{Text: "<a/>" + c.text}, impl.Step(impl.Session{Text: "<a/>" + c.text, Told: 2}).Code, start("a"), end("a"))
		closedOf(t, s)
	}
}

func TestSteps(t *testing.T) {
	s := fedWith(t, impl.Session{}, "<!--c--><a k='1'>te")
	s = checkSteps(t, s, impl.ErrShort, remark("c"), start("a", "k", "1"))
	s = checkSteps(t, fedWith(t, s, "xt"), impl.ErrShort)
	s = checkSteps(t, fedWith(t, s, "<"), impl.ErrShort)
	s = checkSteps(t, fedWith(t, s, "?p q?"), impl.ErrShort)
	s = checkSteps(t, fedWith(t, s, "></a>"), impl.ErrShort, words("text"), order("p", "q"), end("a"))
	checkSteps(t, closedOf(t, s), impl.ErrEnd)
	checkSteps(t, fedWith(t, s, "</"), impl.ErrShort)
	checkSteps(t, fedWith(t, s, "</a>"), impl.ErrSyntax)
	checkSteps(t, closedOf(t, fedWith(t, s, "</")), impl.ErrSyntax)
	checkSteps(t, closedOf(t, fedWith(t, s, " \r")), impl.ErrEnd)
	checkSteps(t, fedWith(t, fedWith(t, s, "</a>"), "<!---->"), impl.ErrSyntax)
}

func TestStepAnswersAreNew(t *testing.T) {
	s := impl.Session{Text: headed("<!ATTLIST a k CDATA '1' l CDATA '2'>", "<a><a/>")}
	first := impl.Step(s)
	first.Event.Attrs[0].Value = "other"
	_ = append(first.Event.Attrs[:1], impl.Attr{Name: "z"})
	again := steppedOver(t, s, start("a", "k", "1", "l", "2"))
	steppedOver(t, again, start("a", "k", "1", "l", "2"))
}
