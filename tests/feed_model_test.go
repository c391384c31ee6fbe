package tests

import (
	"reflect"
	"regexp"
	"slices"
	"strconv"
	"testing"

	"loop.example/g00352/impl"
)

// A model of what there is: each byte stands as the character of its number, so that a form tells what is not sure yet.
var unsureForm = regexp.MustCompile(`(?s)^(.*?)(?:[\x{C0}-\x{FF}]|[\x{E0}-\x{FF}][\x{80}-\x{BF}]|[\x{F0}-\x{FF}][\x{80}-\x{BF}]{2}|\x{0D})?$`)

func sureSize(text string) int {
	var wide []rune
	for _, b := range []byte(text) {
		wide = append(wide, rune(b))
	}
	return len([]rune(unsureForm.FindStringSubmatch(string(wide))[1]))
}

func modelThere(text string, closed bool) impl.EventsOut {
	if !closed {
		text = text[:sureSize(text)]
	}
	at := 0
	for at < len(text) && wholeAt(text[at:]) > 0 {
		at += wholeAt(text[at:])
	}
	if at == len(text) {
		return modelRead(text, closed)
	}
	out := modelRead(text[:at], false)
	if out.Code == impl.ErrShort {
		out.Code = impl.ErrForm
	}
	return out
}

func modelStep(s impl.Session, there impl.EventsOut) impl.StepOut {
	switch n := int64(len(there.Events)); {
	case s.Told < 0 || s.Told > n:
		return impl.StepOut{Code: impl.ErrForm}
	case s.Told < n:
		event := there.Events[s.Told]
		s.Told++
		return impl.StepOut{Session: s, Event: event}
	}
	if there.Code == impl.OK {
		return impl.StepOut{Code: impl.ErrEnd}
	}
	return impl.StepOut{Code: there.Code}
}

// checkSessionModel holds a text's sessions against the model, and tells what there is if it is not closed.
func checkSessionModel(t *testing.T, text string) impl.EventsOut {
	t.Helper()
	for _, closed := range []bool{true, false} {
		there := modelThere(text, closed)
		for told := int64(-1); told <= int64(len(there.Events))+1; told++ {
			s := impl.Session{Text: text, Closed: closed, Told: told}
			want := modelStep(s, there)
			checkStepOut(t, "Step", impl.Step(s), want)
			checkRight(t, s, told >= 0 && told <= int64(len(there.Events)))
		}
	}
	return modelThere(text, false)
}

// checkStays, promise 11: whatever stands behind a text, what it tells stays told, and a fault stays.
func checkStays(t *testing.T, text string, more string, closed bool, first impl.EventsOut) {
	t.Helper()
	s := impl.Session{Text: text, Told: int64(len(first.Events))}
	next := fedWith(t, s, more)
	if closed {
		next = closedOf(t, next)
	}
	out := impl.Step(next)
	if first.Code != impl.ErrShort {
		checkStepOut(t, "Step behind a fault of "+strconv.Quote(text), out, impl.StepOut{Code: first.Code})
	}
	for i, e := range first.Events {
		steppedOver(t, impl.Session{Text: next.Text, Closed: closed, Told: int64(i)}, e)
	}
}

// Promises 10 and 11 of every short text of some pieces, many of them parts of a character, of a mark or of a line's end.
func TestSessionsOfEveryText(t *testing.T) {
	t.Parallel()
	met := map[int64]int{}
	for _, c := range []struct {
		ahead  string
		pieces []string
		most   int
	}{
		{"", []string{"<a>", "<b/>", "</a>", "x", "\xc3", "\xa9", "\r", "\n", "<", "&lt;", "\x01"}, 4},
		{"<a>", []string{"\xc3", "\xe2", "\xf0", "\xff", "\x80", "\x90", "\xbf", "\r", "<b/>"}, 4},
		{"<a><b", []string{" k='", "'", "&", "e", ";", "/", ">", "<", "\xe2\x82", "\xac", "\r"}, 4},
		{headed(ent("e", "x<b/>&f;")+ent("f", "\u20ac")+ent("g", "<b>&g;</b>")+ent("k", "&#38;")+ent("l", "z&#13;")+"<!ATTLIST b n ID ' 1 &f;'>", "<a>"), []string{"&e;", "&g;", "&k;", "&l;", "&x;", "<b>", "</b>", "</a>", "\xe2", "]]>"}, 3},
		{"<", []string{"?xml", " version=\"1.0\"", "?", ">", "\r", "\n", "!--", "--", "a/>", "\xf0\x9f", "\x98\x80"}, 4},
	} {
		everyText(c.ahead, c.pieces, c.most, func(text string) {
			met[checkSessionModel(t, text).Code]++
		})
		everyText(c.ahead, c.pieces, c.most-1, func(text string) {
			first := modelThere(text, false)
			for _, p := range append(slices.Clone(c.pieces), "") {
				checkStays(t, text, p, false, first)
				checkStays(t, text, p, true, first)
			}
		})
	}
	checkMet(t, met, impl.ErrForm, impl.ErrSyntax, impl.ErrShort, impl.ErrNone, impl.ErrLoop)
}

// Promises 10 and 11 of documents that are cut off anywhere, with one byte made another, or put between.
func TestSessionsOfChangedDocuments(t *testing.T) {
	t.Parallel()
	for _, l := range documents {
		text := textOf(l)
		for i := range len(text) {
			first := checkSessionModel(t, text[:i])
			for _, sign := range []string{"", "<", "&", "\r", "\r\n", "x", "\xff", "\x80", "\xe2\x82"} {
				checkSessionModel(t, text[:i]+sign)
				checkStays(t, text[:i], sign+text[i+1:], i%2 == 0, first)
				checkStays(t, text[:i], sign+text[i:], i%2 == 1, first)
			}
		}
	}
}

// Every end of up to four bytes, of bytes from each range and at its ends.
func TestEveryEnd(t *testing.T) {
	some := []byte{'\n', '\r', 'x', 0x7F, 0x80, 0x9F, 0xBF, 0xC0, 0xC3, 0xDF, 0xE0, 0xE2, 0xEF, 0xF0, 0xF4, 0xFF}
	everyRow(some, 4, func(l []byte) {
		text := "<" + string(l)
		there := modelThere(text, false)
		checkStepOut(t, "Step", impl.Step(impl.Session{Text: text}), impl.StepOut{Code: there.Code})
		text = "<a/>" + string(l)
		there = modelThere(text, false)
		checkStepOut(t, "Step", impl.Step(impl.Session{Text: text, Told: 2}), impl.StepOut{Code: there.Code})
		if !reflect.DeepEqual(plainEvents(there.Events), events(start("a"), end("a"))) {
			t.Fatalf("%q tells %v", text, there.Events)
		}
	})
}
