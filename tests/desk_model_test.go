package tests

import (
	"regexp"
	"strconv"
	"strings"
	"testing"

	"loop.example/g00352/impl"
)

// A model of the desk: a line goes by one form, and what it tells by the models of the other chapters.
var lineForm = regexp.MustCompile(`(?s)\A(?:(feed|canon|names) (.*)|(close|step))\n\z`)

// linesOf: each with its line feed, but for a last one that lacks it.
func linesOf(text string) []string {
	lines := strings.SplitAfter(text, "\n")
	if lines[len(lines)-1] == "" {
		return lines[:len(lines)-1]
	}
	return lines
}

// toldOf: the words of an event.
func toldOf(e impl.Event) string {
	out := strconv.FormatInt(e.Kind, 10) + " " + e.Name
	if e.Name == "" {
		out += "-"
	}
	for _, a := range e.Attrs {
		out += " " + a.Name + "=" + valueSigns.Replace(a.Value)
	}
	if e.Text != "" {
		out += " \"" + valueSigns.Replace(e.Text) + "\""
	}
	return out
}

func modelNames(text string) string {
	read := modelRead(text, true)
	if read.Code != impl.OK {
		return failed(read.Code, int(read.At))
	}
	spaced := modelSpaced(read.Events)
	if spaced.Code != impl.OK {
		return failed(spaced.Code, int(spaced.At))
	}
	out := ""
	for _, n := range spaced.Nodes {
		switch {
		case n.Kind == impl.EvStart && n.Name.Space == "":
			out += " " + n.Name.Local + "@-"
		case n.Kind == impl.EvStart:
			out += " " + n.Name.Local + "@" + valueSigns.Replace(n.Name.Space)
		}
	}
	return out[1:]
}

// modelLine: what a line tells, and the Session behind it.
func modelLine(s impl.Session, line string) (impl.Session, string) {
	found := lineForm.FindStringSubmatch(line)
	text := strings.ReplaceAll(found[2], "|", "\n")
	switch found[1] + found[3] {
	case "feed":
		if s.Closed {
			return s, "error 10"
		}
		s.Text += text
	case "close":
		s.Closed = true
	case "step":
		out := modelStep(s, modelThere(s.Text, s.Closed))
		if out.Code != impl.OK {
			return s, failed(out.Code)
		}
		return out.Session, toldOf(out.Event)
	case "canon":
		out := modelCanon(text, nil, true)
		if out.Code != impl.OK {
			return s, failed(out.Code, int(out.At))
		}
		return s, "form " + valueSigns.Replace(out.Text)
	case "names":
		return s, modelNames(text)
	}
	return s, "ok"
}

func modelDesk(text string) impl.DeskOut {
	if len(text) > 4000 {
		return impl.DeskOut{Code: impl.ErrSize}
	}
	lines := linesOf(text)
	for i, line := range lines {
		if i == 60 || !lineForm.MatchString(line) {
			return impl.DeskOut{Line: int64(i), Code: impl.ErrSyntax}
		}
	}
	var s impl.Session
	var told, one string
	for _, line := range lines {
		s, one = modelLine(s, line)
		told += one + "\n"
	}
	if len(told) > 60000 {
		return impl.DeskOut{Code: impl.ErrFull}
	}
	return impl.DeskOut{Text: told}
}

// checkDeskModel, promise 12: a desk against the model; its first lines tell a line each, which begin what all tell.
func checkDeskModel(t *testing.T, text string) int64 {
	t.Helper()
	want := modelDesk(text)
	checkDesk(t, text, want)
	if t.Failed() {
		t.FailNow()
	}
	if want.Code != impl.OK {
		return want.Code
	}
	first := ""
	for i, line := range linesOf(text) {
		first += line
		told := impl.DeskRun(first).Text
		if !strings.HasPrefix(want.Text, told) || strings.Count(told, "\n") != i+1 || !strings.HasSuffix(told, "\n") {
			t.Fatalf("%q tells %q, and its first lines %q tell %q", text, want.Text, first, told)
		}
	}
	return impl.OK
}

// Promise 12 of every row of some lines, right and wrong.
func TestDesksOfEveryRowOfLines(t *testing.T) {
	t.Parallel()
	met := map[int64]int{}
	for _, c := range []struct {
		ahead string
		lines []string
		most  int
	}{
		{"", []string{"feed <a k='\"'>\n", "feed x\n", "feed </a>\n", "step\n", "close\n", "canon <a><!--|--></a>\n", "names <a xmlns='u'/>\n", "names \n", "step \n"}, 5},
		{"feed <a>x<?p?>\n", []string{"feed </a>\n", "feed \n", "feed |&lt;\n", "feed \xc3\n", "feed \xa9\n", "feed \r\n", "step\n", "close\n"}, 5},
		{"feed <a><b/>&none;<c/></a>\n", []string{"feed \xff\n", "step\n", "close\n", "canon <p:a/>\n", "names <p:a/>\n", "feed\n", "\n", "step"}, 5},
	} {
		everyText(c.ahead, c.lines, c.most, func(text string) {
			met[checkDeskModel(t, text)]++
		})
	}
	checkMet(t, met, impl.OK, impl.ErrSyntax)
}

// Every short text of pieces of lines.
func TestDesksOfEveryText(t *testing.T) {
	t.Parallel()
	met := map[int64]int{}
	for _, c := range []struct {
		ahead  string
		pieces []string
		most   int
	}{
		{"", []string{"feed", "close", "step", "canon", "names", " ", "\n", "|", "\r", "<a/>", "s", "\xff"}, 4},
		{"", []string{"feed <a/>", "close", "step", " ", "\n", "\n\n"}, 6},
		{"feed <a>\nstep\n", []string{"feed ", "step", "\n", "|", "&#124;", "</a>", "\xe2\x82", "\xac"}, 5},
		{"names ", []string{"<p:a", " xmlns='", "'", " xmlns:p='", "u", "&lt;", "/>", "|", "\n"}, 5},
		{"canon <a>", []string{"<b/>", "<!--", "-->", "\"", "|", "</a>", "\n", "canon <a>", "&lt;"}, 5},
	} {
		everyText(c.ahead, c.pieces, c.most, func(text string) {
			met[checkDeskModel(t, text)]++
			met[checkDeskModel(t, text+"\n")]++
		})
	}
	checkMet(t, met, impl.OK, impl.ErrSyntax)
}

// Desks with one byte taken away, put between, or made another.
func TestChangedDesks(t *testing.T) {
	t.Parallel()
	met := map[int64]int{}
	var desks []string
	for _, l := range documents {
		text := strings.ReplaceAll(textOf(l), "\n", "|")
		desks = append(desks, "feed "+text[:len(text)/2]+"\nstep\nfeed "+text[len(text)/2:]+"\n"+strings.Repeat("step\n", 4)+"close\nstep\ncanon "+text+"\nnames "+text+"\n")
	}
	desks = append(desks, fullLines, strings.Repeat("step\n", 60))
	for i, text := range desks {
		checkDeskModel(t, text)
		every := 1 + len(text)/100
		for at := i % every; at < len(text); at += every {
			met[checkDeskModel(t, text[:at])]++
			met[checkDeskModel(t, text[:at]+text[at+1:])]++
			for _, sign := range []string{"\n", " ", "|", "<", "x", "\xff", "\r"} {
				met[checkDeskModel(t, text[:at]+sign+text[at:])]++
				met[checkDeskModel(t, text[:at]+sign+text[at+1:])]++
			}
		}
	}
	checkMet(t, met, impl.OK, impl.ErrSyntax, impl.ErrFull)
}

// elements: so many within one another, each with an attribute, and a text in the innermost; written as their form is.
func elements(deep int, value string, text string) []piece {
	var l []piece
	for i := range deep {
		name, its := string(rune('a'+i%26)), value
		if i > 0 {
			its += strconv.Itoa(i)
		}
		l = append(l, tells("<"+name+" k=\""+valueSigns.Replace(its)+"\">", start(name, "k", its)))
	}
	l = append(l, tells(textSigns.Replace(text), words(text)))
	for i := range deep {
		name := string(rune('a' + (deep-1-i)%26))
		l = append(l, tells("</"+name+">", end(name)))
	}
	return l
}

// A deskOf is put together line by line, with what each line must tell.
type deskOf struct {
	text string
	told string
}

func (d *deskOf) line(line string, told string) {
	d.text += line + "\n"
	d.told += told + "\n"
}

// stepAll: a step for each of these events.
func (d *deskOf) stepAll(l []impl.Event) {
	for _, e := range l {
		d.line("step", toldOf(e))
	}
}

// checkElements, promise 13: elements in parts, with as many steps behind each part as it lets be told (or at most so
// many, and the others behind the last), then the end, and their form as they were.
func checkElements(t *testing.T, l []piece, parts []string, most int) {
	t.Helper()
	var d deskOf
	whole, size, told := toldBy(l), 0, 0
	for _, p := range parts {
		d.line("feed "+strings.ReplaceAll(p, "\n", "|"), "ok")
		size += len(p)
		there := cutDocument(l, size, false).Events
		upTo := min(len(there), told+most)
		d.stepAll(there[told:upTo])
		if upTo == len(there) && most > 0 && upTo < told+most {
			d.line("step", "error 4")
		}
		told = upTo
	}
	d.line("close", "ok")
	d.stepAll(whole[told:])
	d.line("step", "error 10")
	text := strings.ReplaceAll(textOf(l), "\n", "|")
	d.line("canon "+text, "form "+valueSigns.Replace(textOf(l)))
	if n := strings.Count(d.text, "\n"); n > 60 {
		t.Fatalf("a desk of %d lines: %q", n, parts)
	}
	checkDesk(t, d.text, impl.DeskOut{Text: d.told})
	if t.Failed() {
		t.FailNow()
	}
}

// Promise 13.
func TestElementsFedInParts(t *testing.T) {
	t.Parallel()
	// Byte by byte, all steps behind the last, and one step behind each byte.
	for _, c := range []struct {
		deep  int
		value string
		text  string
	}{{1, "", "x"}, {1, "1", "\u20ac"}, {1, "<", "&"}, {1, " ", "\n"}, {2, "", "x"}} {
		l := elements(c.deep, c.value, c.text)
		checkElements(t, l, inParts(textOf(l), 1), 0)
		checkElements(t, l, inParts(textOf(l), 1), 1)
	}
	for _, c := range []struct {
		deep  int
		value string
		text  string
	}{{2, "1", "text"}, {2, "\"", "x"}, {3, "", "xy"}, {1, "\t\r", "]]>"}, {2, "", "\r\n"}} {
		l := elements(c.deep, c.value, c.text)
		checkElements(t, l, inParts(textOf(l), 1), 0)
	}
	// In two parts, wherever they are parted, up to as many lines as a desk has.
	for _, l := range [][]piece{elements(1, "1", "x"), elements(2, "<\"\u00e9\n>", "\u20ac <&>\r\n\"'"), elements(5, "\U0001F600\t", "]]>"), elements(26, "", "x")} {
		for at := range len(textOf(l)) {
			parts := []string{textOf(l)[:at], textOf(l)[at:]}
			checkElements(t, l, parts, 0)
			checkElements(t, l, parts, 100)
		}
	}
	// In three, and in more.
	l := elements(4, "<1", "x\n\u20acy")
	text := textOf(l)
	for i := range len(text) {
		for j := i; j < len(text); j++ {
			checkElements(t, l, []string{text[:i], text[i:j], text[j:]}, 100)
		}
	}
	for size := 4; size < 20; size++ {
		checkElements(t, l, inParts(text, size), 1)
		checkElements(t, l, inParts(text, size), 100)
	}
}
