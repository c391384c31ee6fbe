package tests

import (
	"math"
	"reflect"
	"regexp"
	"strings"
	"testing"
	"unicode/utf8"

	"loop.example/g00352/impl"
)

type marked struct {
	text string
	want impl.Token
}

var longest = strings.Repeat("n", 60)

var rightMarks = []marked{
	{"<a>", impl.Token{Kind: impl.TkStart, Name: "a"}},
	{"<a:b \t\n>", impl.Token{Kind: impl.TkStart, Name: "a:b"}},
	{"<" + longest + ">", impl.Token{Kind: impl.TkStart, Name: longest}},
	{"<\u00e9.-1 k='1'>", impl.Token{Kind: impl.TkStart, Name: "\u00e9.-1", Attrs: []impl.Attr{{Name: "k", Value: "1"}}}},
	{"<a k=\"\" K=''>", impl.Token{Kind: impl.TkStart, Name: "a", Attrs: []impl.Attr{{Name: "k"}, {Name: "K"}}}},
	{"<a\tk\n=\n'\"'\n\nkk \t = \t \"'/>\" >", impl.Token{Kind: impl.TkStart, Name: "a", Attrs: []impl.Attr{{Name: "k", Value: "\""}, {Name: "kk", Value: "'/>"}}}},
	{"<a z='1' y='2' x='1'>", impl.Token{Kind: impl.TkStart, Name: "a", Attrs: []impl.Attr{{Name: "z", Value: "1"}, {Name: "y", Value: "2"}, {Name: "x", Value: "1"}}}},
	{"<a k=' &lt;\n\t&x; ]]> --'>", impl.Token{Kind: impl.TkStart, Name: "a", Attrs: []impl.Attr{{Name: "k", Value: " &lt;\n\t&x; ]]> --"}}}},
	{"<a " + longest + "='\u20ac\U0001F600'>", impl.Token{Kind: impl.TkStart, Name: "a", Attrs: []impl.Attr{{Name: longest, Value: "\u20ac\U0001F600"}}}},
	{"<xml xmlns='u' XML:xml='v'>", impl.Token{Kind: impl.TkStart, Name: "xml", Attrs: []impl.Attr{{Name: "xmlns", Value: "u"}, {Name: "XML:xml", Value: "v"}}}},
	{"<a/>", impl.Token{Kind: impl.TkEmpty, Name: "a"}},
	{"<_ />", impl.Token{Kind: impl.TkEmpty, Name: "_"}},
	{"<a k='/'/>", impl.Token{Kind: impl.TkEmpty, Name: "a", Attrs: []impl.Attr{{Name: "k", Value: "/"}}}},
	{"<a k='1' l='2' />", impl.Token{Kind: impl.TkEmpty, Name: "a", Attrs: []impl.Attr{{Name: "k", Value: "1"}, {Name: "l", Value: "2"}}}},
	{"</a>", impl.Token{Kind: impl.TkEnd, Name: "a"}},
	{"</a:b \n\t >", impl.Token{Kind: impl.TkEnd, Name: "a:b"}},
	{"</" + longest + ">", impl.Token{Kind: impl.TkEnd, Name: longest}},
	{"<!---->", impl.Token{Kind: impl.TkComment}},
	{"<!-- c\n-->", impl.Token{Kind: impl.TkComment, Text: " c\n"}},
	{"<!--->-->", impl.Token{Kind: impl.TkComment, Text: "->"}},
	{"<!-->-->", impl.Token{Kind: impl.TkComment, Text: ">"}},
	{"<!--- - <a k=\"]]>'?> -->", impl.Token{Kind: impl.TkComment, Text: "- - <a k=\"]]>'?> "}},
	{"<!--\u20ac-->", impl.Token{Kind: impl.TkComment, Text: "\u20ac"}},
	{"<![CDATA[]]>", impl.Token{Kind: impl.TkCdata}},
	{"<![CDATA[ <a>&lt;\n--> ]]>", impl.Token{Kind: impl.TkCdata, Text: " <a>&lt;\n--> "}},
	{"<![CDATA[]]]]>", impl.Token{Kind: impl.TkCdata, Text: "]]"}},
	{"<![CDATA[>]>]] >]]>", impl.Token{Kind: impl.TkCdata, Text: ">]>]] >"}},
	{"<![CDATA[<![CDATA[]]>", impl.Token{Kind: impl.TkCdata, Text: "<![CDATA["}},
	{"<?p?>", impl.Token{Kind: impl.TkPi, Name: "p"}},
	{"<?p ?>", impl.Token{Kind: impl.TkPi, Name: "p"}},
	{"<?p \t\n x \n?>", impl.Token{Kind: impl.TkPi, Name: "p", Text: "x \n"}},
	{"<?p:q ??>", impl.Token{Kind: impl.TkPi, Name: "p:q", Text: "?"}},
	{"<?p > ? <?p '\u00e9\"?>", impl.Token{Kind: impl.TkPi, Name: "p", Text: "> ? <?p '\u00e9\""}},
	{"<?xmlx x?>", impl.Token{Kind: impl.TkPi, Name: "xmlx", Text: "x"}},
	{"<?xm xml?>", impl.Token{Kind: impl.TkPi, Name: "xm", Text: "xml"}},
	{"<?xml: ?>", impl.Token{Kind: impl.TkPi, Name: "xml:"}},
	{"<?" + longest + "?>", impl.Token{Kind: impl.TkPi, Name: longest}},
	{"<!DOCTYPE a>", impl.Token{Kind: impl.TkDoctype, Name: "a"}},
	{"<!DOCTYPE\n\ta:b >", impl.Token{Kind: impl.TkDoctype, Name: "a:b"}},
	{"<!DOCTYPE a[]>", impl.Token{Kind: impl.TkDoctype, Name: "a"}},
	{"<!DOCTYPE " + longest + " [ ] \n>", impl.Token{Kind: impl.TkDoctype, Name: longest, Text: " "}},
	{"<!DOCTYPE a [<!ENTITY e \"]'>\"> [<x >> ]>", impl.Token{Kind: impl.TkDoctype, Name: "a", Text: "<!ENTITY e \"]'>\"> [<x >> "}},
	{"<!DOCTYPE a ['\"]' \"']\"]>", impl.Token{Kind: impl.TkDoctype, Name: "a", Text: "'\"]' \"']\""}},
	{"<!DOCTYPE a [<!-- ]>'\"<? -- -->\n]>", impl.Token{Kind: impl.TkDoctype, Name: "a", Text: "<!-- ]>'\"<? -- -->\n"}},
	{"<!DOCTYPE a [<!-->]-->]>", impl.Token{Kind: impl.TkDoctype, Name: "a", Text: "<!-->]-->"}},
	{"<!DOCTYPE a [<!--->]-->]>", impl.Token{Kind: impl.TkDoctype, Name: "a", Text: "<!--->]-->"}},
	{"<!DOCTYPE a [<?p ]>'\"<!-- ?>]>", impl.Token{Kind: impl.TkDoctype, Name: "a", Text: "<?p ]>'\"<!-- ?>"}},
	{"<!DOCTYPE a [<?>]?>]>", impl.Token{Kind: impl.TkDoctype, Name: "a", Text: "<?>]?>"}},
	{"<!DOCTYPE a [<!- <! ? > --> ?>]>", impl.Token{Kind: impl.TkDoctype, Name: "a", Text: "<!- <! ? > --> ?>"}},
	{"<!DOCTYPE a ['<!--' \"<?\" <'']>", impl.Token{Kind: impl.TkDoctype, Name: "a", Text: "'<!--' \"<?\" <''"}},
	{"<!DOCTYPE a [%&\u00e9;]>", impl.Token{Kind: impl.TkDoctype, Name: "a", Text: "%&\u00e9;"}},
}

var rightTexts = []string{
	"a", " ", "\n", ">", "]", "]]", "]] >", "]>", "/>", "-->", "?>", "&", "&lt;", "=", "'", "\"", "\u00e9", "a b\tc\nd",
	"\U0001F600x", "]]\u00e9>", "1", "!--",
}

type wrongMark struct {
	text string
	code int64
}

// Each of these is wrong with its last character, and short without it.
var wrongMarks = []wrongMark{
	{"<a k='1' k='2'", impl.ErrThere},
	{"<a k='1' l='2' k=\"\"", impl.ErrThere},
	{"<a\u00e9 \u00e9=''\n\u00e9 = ''", impl.ErrThere},
	{"<a k='1' k=2", impl.ErrSyntax},
	{"<a k='1' k>", impl.ErrSyntax},
	{"<a k='1' k='<", impl.ErrSyntax},
	{"<a k='<", impl.ErrSyntax},
	{"<a k=\"a b<", impl.ErrSyntax},
	{"<a k=\"'<", impl.ErrSyntax},
	{"<a k=1", impl.ErrSyntax},
	{"<a k= &", impl.ErrSyntax},
	{"<a k=>", impl.ErrSyntax},
	{"<a k>", impl.ErrSyntax},
	{"<a k/", impl.ErrSyntax},
	{"<a k l", impl.ErrSyntax},
	{"<a k='1'l", impl.ErrSyntax},
	{"<a k='1'\"", impl.ErrSyntax},
	{"<a =", impl.ErrSyntax},
	{"<a 1", impl.ErrSyntax},
	{"<a -", impl.ErrSyntax},
	{"<a '", impl.ErrSyntax},
	{"<a=", impl.ErrSyntax},
	{"<a<", impl.ErrSyntax},
	{"<a <", impl.ErrSyntax},
	{"<a/a", impl.ErrSyntax},
	{"<a/ ", impl.ErrSyntax},
	{"<a //", impl.ErrSyntax},
	{"<a?", impl.ErrSyntax},
	{"<a\u00a0", impl.ErrSyntax},
	{"<a\u0085", impl.ErrSyntax},
	{"<" + longest + "n", impl.ErrSyntax},
	{"<" + longest[1:] + "\u00e9", impl.ErrSyntax},
	{"<a " + longest + "n", impl.ErrSyntax},
	{"< ", impl.ErrSyntax},
	{"<1", impl.ErrSyntax},
	{"<-", impl.ErrSyntax},
	{"<\u00b7", impl.ErrSyntax},
	{"<<", impl.ErrSyntax},
	{"<>", impl.ErrSyntax},
	{"<&", impl.ErrSyntax},
	{"</ ", impl.ErrSyntax},
	{"</>", impl.ErrSyntax},
	{"</1", impl.ErrSyntax},
	{"</a/", impl.ErrSyntax},
	{"</a k", impl.ErrSyntax},
	{"</a<", impl.ErrSyntax},
	{"</" + longest + "n", impl.ErrSyntax},
	{"<!-- a --b", impl.ErrSyntax},
	{"<!-----", impl.ErrSyntax},
	{"<!----a", impl.ErrSyntax},
	{"<!---- ", impl.ErrSyntax},
	{"<!--a---", impl.ErrSyntax},
	{"<? ", impl.ErrSyntax},
	{"<??", impl.ErrSyntax},
	{"<?1", impl.ErrSyntax},
	{"<?>", impl.ErrSyntax},
	{"<?p>", impl.ErrSyntax},
	{"<?p/", impl.ErrSyntax},
	{"<?p??", impl.ErrSyntax},
	{"<?p? ", impl.ErrSyntax},
	{"<?" + longest + "n", impl.ErrSyntax},
	{"<?xml ", impl.ErrSyntax},
	{"<?xml?", impl.ErrSyntax},
	{"<?xml\n", impl.ErrSyntax},
	{"<?XML\t", impl.ErrSyntax},
	{"<?xMl?", impl.ErrSyntax},
	{"<?Xml ", impl.ErrSyntax},
	{"<?xmL ", impl.ErrSyntax},
	{"<!a", impl.ErrSyntax},
	{"<! ", impl.ErrSyntax},
	{"<!>", impl.ErrSyntax},
	{"<!<", impl.ErrSyntax},
	{"<!- ", impl.ErrSyntax},
	{"<!->", impl.ErrSyntax},
	{"<![c", impl.ErrSyntax},
	{"<![CDATA ", impl.ErrSyntax},
	{"<![[", impl.ErrSyntax},
	{"<!d", impl.ErrSyntax},
	{"<!DOCTYPe", impl.ErrSyntax},
	{"<!DOCTYPEa", impl.ErrSyntax},
	{"<!DOCTYPE>", impl.ErrSyntax},
	{"<!DOCTYPE[", impl.ErrSyntax},
	{"<!DOCTYPE [", impl.ErrSyntax},
	{"<!DOCTYPE >", impl.ErrSyntax},
	{"<!DOCTYPE 1", impl.ErrSyntax},
	{"<!DOCTYPE a b", impl.ErrSyntax},
	{"<!DOCTYPE a S", impl.ErrSyntax},
	{"<!DOCTYPE a/", impl.ErrSyntax},
	{"<!DOCTYPE a]", impl.ErrSyntax},
	{"<!DOCTYPE a'", impl.ErrSyntax},
	{"<!DOCTYPE a[]]", impl.ErrSyntax},
	{"<!DOCTYPE a[] [", impl.ErrSyntax},
	{"<!DOCTYPE a[]/", impl.ErrSyntax},
	{"<!DOCTYPE " + longest + "n", impl.ErrSyntax},
	{"<!E", impl.ErrSyntax},
	{"<!A", impl.ErrSyntax},
	{"]]>", impl.ErrSyntax},
	{"a]]>", impl.ErrSyntax},
	{"]]]]]>", impl.ErrSyntax},
	{"\u00e9 ]]>", impl.ErrSyntax},
}

// What may stand behind a mark: among it what would go on with each of them.
var behind = []string{
	"", "a", "1", " ", "\n", ">", "/>", "=", "='x'", "'", "\"", "<", "<a>", "</a>", "<!--", "-->", "--", "->", "-", "]]>", "]", "?>", "?",
	"[", "![CDATA[", "\u00e9", "\u00b7", " k='1'>", "</a k='1' k='1'>", "& ]]> <", "\uFFFD",
}

// Texts of one, two, three and four bytes, so that places differ from numbers of characters.
var aheadOf = []string{"", "a", "\u00e9", "<a", "<!--\u20ac", "x\n\U0001F600", "]]>"}

func checkNext(t *testing.T, text string, at int, closed bool, want impl.TokenOut) {
	t.Helper()
	got := impl.Next(text, int64(at), closed)
	if len(got.Token.Attrs) == 0 {
		got.Token.Attrs = nil
	}
	if !reflect.DeepEqual(got, want) {
		t.Errorf("Next of %.80q (%d bytes), %d, %v: got %+v, want %+v", text, len(text), at, closed, got, want)
	}
}

// checkEverywhere: the same is told wherever it stands, closed or not.
func checkEverywhere(t *testing.T, text string, want impl.TokenOut, tails []string) {
	t.Helper()
	for _, tail := range tails {
		checkNext(t, text+tail, 0, false, want)
		checkNext(t, text+tail, 0, true, want)
	}
	for _, head := range aheadOf {
		shifted := want
		if want.Code == impl.OK {
			shifted.At += int64(len(head))
		}
		checkNext(t, head+text+tails[0], len(head), false, shifted)
		checkNext(t, head+text+tails[0], len(head), true, shifted)
	}
}

func TestMarksAreToldAlike(t *testing.T) {
	for _, m := range rightMarks {
		checkEverywhere(t, m.text, impl.TokenOut{Token: m.want, At: int64(len(m.text))}, behind)
	}
}

func TestTextsAreToldAlike(t *testing.T) {
	var tails []string
	for _, b := range behind {
		tails = append(tails, "<"+b)
	}
	for _, text := range rightTexts {
		want := impl.TokenOut{Token: impl.Token{Kind: impl.TkText, Text: text}, At: int64(len(text))}
		checkEverywhere(t, text, want, tails)
		checkNext(t, text, 0, true, want)
		checkNext(t, text, 0, false, impl.TokenOut{Code: impl.ErrShort})
	}
}

func TestTextFromItsMidst(t *testing.T) {
	checkNext(t, "a]]>", 2, true, impl.TokenOut{Token: impl.Token{Kind: impl.TkText, Text: "]>"}, At: 4})
	checkNext(t, "a]]>", 2, false, impl.TokenOut{Code: impl.ErrShort})
	checkNext(t, "<a>b<", 2, false, impl.TokenOut{Token: impl.Token{Kind: impl.TkText, Text: ">b"}, At: 4})
	checkNext(t, "ab]]", 1, true, impl.TokenOut{Token: impl.Token{Kind: impl.TkText, Text: "b]]"}, At: 4})
	checkNext(t, "a]]<>", 0, true, impl.TokenOut{Token: impl.Token{Kind: impl.TkText, Text: "a]]"}, At: 3})
}

func checkCut(t *testing.T, text string) {
	t.Helper()
	if !utf8.ValidString(text) {
		checkNext(t, text, 0, false, impl.TokenOut{Code: impl.ErrForm})
		checkNext(t, text, 0, true, impl.TokenOut{Code: impl.ErrForm})
		return
	}
	checkNext(t, text, 0, false, impl.TokenOut{Code: impl.ErrShort})
	if strings.HasPrefix(text, "<") {
		checkNext(t, text, 0, true, impl.TokenOut{Code: impl.ErrSyntax})
	} else {
		checkNext(t, text, 0, true, impl.TokenOut{Token: impl.Token{Kind: impl.TkText, Text: text}, At: int64(len(text))})
	}
}

func TestMarksCutOff(t *testing.T) {
	for _, m := range rightMarks {
		for size := 1; size < len(m.text); size++ {
			checkCut(t, m.text[:size])
		}
	}
}

func TestWrongMarks(t *testing.T) {
	for _, w := range wrongMarks {
		checkEverywhere(t, w.text, impl.TokenOut{Code: w.code}, behind)
		_, last := utf8.DecodeLastRuneInString(w.text)
		for size := 1; size <= len(w.text)-last; size++ {
			checkCut(t, w.text[:size])
		}
	}
}

func TestNextOrderOfFaults(t *testing.T) {
	long := strings.Repeat("a", 4000)
	for _, at := range []int{-1, 0, 4000, 4001, 4002, math.MaxInt, math.MinInt} {
		checkNext(t, long+"a", at, true, impl.TokenOut{Code: impl.ErrSize})
		checkNext(t, long+"\xff", at, false, impl.TokenOut{Code: impl.ErrSize})
		checkNext(t, "\r"+long, at, true, impl.TokenOut{Code: impl.ErrSize})
	}
	wrong := impl.TokenOut{Code: impl.ErrForm}
	for _, text := range []string{
		"\xff", "<a>\xff", "<a>\x80", "<a>\xc3", "<a>\xef\xbf\xbf", "<a>\xed\xa0\x80", "<a>\x00", "<a\x01>", "\xc3<a>",
		"\r", "<a>\r", "<a\r>", "<a>b\r\n", "<!--\r-->", "<a k='\r'>", "ab\r",
	} {
		for at := -2; at < len(text)+2; at++ {
			checkNext(t, text, at, true, wrong)
			checkNext(t, text, at, false, wrong)
		}
	}
	for _, closed := range []bool{false, true} {
		for _, at := range []int{-1, -3, 4, 5, 100, math.MaxInt, math.MinInt, 1<<32 + 1, -1 << 32} {
			checkNext(t, "<a>", at, closed, wrong)
			checkNext(t, "<b", at, closed, wrong)
		}
		checkNext(t, "", -1, closed, wrong)
		checkNext(t, "", 1, closed, wrong)
		for _, at := range []int{1, 3, 4, 6, 7, 8} {
			checkNext(t, "\u00e9\u20ac\U0001F600<", at, closed, wrong)
		}
		checkNext(t, "", 0, closed, impl.TokenOut{Code: impl.ErrEnd})
		checkNext(t, "<a>", 3, closed, impl.TokenOut{Code: impl.ErrEnd})
		checkNext(t, "<a", 2, closed, impl.TokenOut{Code: impl.ErrEnd})
		checkNext(t, "]]>", 3, closed, impl.TokenOut{Code: impl.ErrEnd})
		checkNext(t, "\u00e9", 2, closed, impl.TokenOut{Code: impl.ErrEnd})
		checkNext(t, long, 4000, closed, impl.TokenOut{Code: impl.ErrEnd})
	}
}

func TestNextOfLongTexts(t *testing.T) {
	long := strings.Repeat("a", 4000)
	checkNext(t, long, 0, true, impl.TokenOut{Token: impl.Token{Kind: impl.TkText, Text: long}, At: 4000})
	checkNext(t, long, 3999, true, impl.TokenOut{Token: impl.Token{Kind: impl.TkText, Text: "a"}, At: 4000})
	checkNext(t, long, 0, false, impl.TokenOut{Code: impl.ErrShort})
	checkNext(t, "<"+long[1:], 0, false, impl.TokenOut{Code: impl.ErrSyntax})
	checkNext(t, "<!--"+long[7:]+"-->", 0, false, impl.TokenOut{Token: impl.Token{Kind: impl.TkComment, Text: long[7:]}, At: 4000})
	checkNext(t, "<a k='"+long[8:]+"'>", 0, false, impl.TokenOut{Token: impl.Token{Kind: impl.TkStart, Name: "a", Attrs: []impl.Attr{{Name: "k", Value: long[8:]}}}, At: 4000})
	var text strings.Builder
	var attrs []impl.Attr
	text.WriteString("<a")
	for n := range 500 {
		name := "k" + string(rune('A'+n/26)) + string(rune('a'+n%26))
		text.WriteString(" " + name + "=''")
		attrs = append(attrs, impl.Attr{Name: name})
	}
	checkNext(t, text.String()+">", 0, false, impl.TokenOut{Token: impl.Token{Kind: impl.TkStart, Name: "a", Attrs: attrs}, At: 3503})
	checkNext(t, text.String()+" kAa=''>", 0, false, impl.TokenOut{Code: impl.ErrThere})
}

func TestNextAnswersAreNew(t *testing.T) {
	text := "<a k='1' l='2'><a k='1' l='2'>"
	first := impl.Next(text, 0, false)
	second := impl.Next(text, 0, false)
	first.Token.Attrs[0].Name = "x"
	_ = append(first.Token.Attrs[:1], impl.Attr{Name: "y"})
	want := []impl.Attr{{Name: "k", Value: "1"}, {Name: "l", Value: "2"}}
	if !reflect.DeepEqual(second.Token.Attrs, want) || !reflect.DeepEqual(impl.Next(text, 15, true).Token.Attrs, want) {
		t.Errorf("two answers share memory: %v", second.Token.Attrs)
	}
}

const attrForm = `[\t\n ]+([A-Za-z][A-Za-z-]*)[\t\n ]*=[\t\n ]*("[^"<]*"|'[^'<]*')`

// The kinds of marks, but for the TEXT of a head, as they stand in the document's table.
var markForms = []struct {
	kind int64
	form *regexp.Regexp
}{
	{impl.TkStart, regexp.MustCompile(`^<[A-Za-z][A-Za-z-]*(?:` + attrForm + `)*[\t\n ]*>`)},
	{impl.TkEmpty, regexp.MustCompile(`^<[A-Za-z][A-Za-z-]*(?:` + attrForm + `)*[\t\n ]*/>`)},
	{impl.TkEnd, regexp.MustCompile(`^</[A-Za-z][A-Za-z-]*[\t\n ]*>`)},
	{impl.TkComment, regexp.MustCompile(`^<!--(?:-?[^-])*-->`)},
	{impl.TkCdata, regexp.MustCompile(`(?s)^<!\[CDATA\[.*?\]\]>`)},
	{impl.TkPi, regexp.MustCompile(`(?s)^<\?[A-Za-z][A-Za-z-]*(?:[\t\n ].*?)?\?>`)},
	{impl.TkDoctype, regexp.MustCompile(`^<!DOCTYPE[\t\n ]+[A-Za-z][A-Za-z-]*[\t\n ]*>`)},
	{impl.TkText, regexp.MustCompile(`^[^<]+`)},
}

var (
	xmlForm     = regexp.MustCompile(`^<\?xml[?\t\n ]`)
	attrOfForm  = regexp.MustCompile(attrForm)
	attrsOfForm = regexp.MustCompile(`^<[A-Za-z][A-Za-z-]*((?:` + attrForm + `)+)`)
	headOfForm  = regexp.MustCompile(`^<!DOCTYPE[\t\n ]+[A-Za-z][A-Za-z-]*[\t\n ]*\[`)
	headBehind  = regexp.MustCompile(`^[\t\n ]*>`)
)

// headSize: how many bytes TEXT of a head has, with which the text begins; -1, if it is not ended.
func headSize(text string) int {
	end := ""
	for i := 0; i < len(text); {
		skip := 1
		switch rest := text[i:]; {
		case end != "":
			if strings.HasPrefix(rest, end) {
				skip, end = len(end), ""
			}
		case rest[0] == '"' || rest[0] == '\'':
			end = rest[:1]
		case strings.HasPrefix(rest, "<!--"):
			skip, end = 4, "-->"
		case strings.HasPrefix(rest, "<?"):
			skip, end = 2, "?>"
		case rest[0] == ']':
			return i
		}
		i += skip
	}
	return -1
}

// wholeMark: the kind and the size of the mark with which the text begins (0, if with none).
func wholeMark(text string) (int64, int) {
	for _, f := range markForms {
		if m := f.form.FindString(text); m != "" && !xmlForm.MatchString(text) {
			return f.kind, len(m)
		}
	}
	if m := headOfForm.FindString(text); m != "" {
		if size := headSize(text[len(m):]); size >= 0 {
			size += len(m) + 1
			if end := headBehind.FindString(text[size:]); end != "" {
				return impl.TkDoctype, size + len(end)
			}
		}
	}
	return 0, 0
}

func doubled(text string) bool {
	found := attrsOfForm.FindStringSubmatch(text)
	if found == nil {
		return false
	}
	seen := map[string]int{}
	for _, a := range attrOfForm.FindAllStringSubmatch(found[1], -1) {
		seen[a[1]]++
	}
	for _, n := range seen {
		if n > 1 {
			return true
		}
	}
	return false
}

// Whatever is the beginning of a mark is one with one of these behind it. (The names in them are in no text here.)
var completions = []string{
	">", "/>", "zz>", "zz=''>", "=''>", "''>", "'>", "\">", "-->", "->", "---->", "--->", "]]>", "]>", "zz?>", "?>",
	"[CDATA[]]>", "CDATA[]]>", "ATA[]]>", "DOCTYPE zz>", "OCTYPE zz>", "TYPE zz>", " zz>", "'[]>", "']>", "\"]>", "-->]>", "->]>", ">]>", "?>]>",
}

func expectedCode(text string, closed bool) int64 {
	kind, size := wholeMark(text)
	switch {
	case kind == impl.TkText && strings.Contains(text[:size], "]]>"):
		return impl.ErrSyntax
	case kind == impl.TkText && size == len(text) && !closed:
		return impl.ErrShort
	case doubled(text):
		return impl.ErrThere
	case kind > 0:
		return impl.OK
	case closed:
		return impl.ErrSyntax
	}
	for _, c := range completions {
		if kind, size := wholeMark(text + c); kind > 0 && size == len(text+c) {
			return impl.ErrShort
		}
	}
	return impl.ErrSyntax
}

func checkAgainstForms(t *testing.T, text string) {
	t.Helper()
	for _, closed := range []bool{false, true} {
		got := impl.Next(text, 0, closed)
		want := expectedCode(text, closed)
		if got.Code != want {
			t.Fatalf("Next of %q, closed %v: got %d, want %d", text, closed, got.Code, want)
		}
		if kind, size := wholeMark(text); want == impl.OK && (got.Token.Kind != kind || got.At != int64(size)) {
			t.Fatalf("Next of %q, closed %v: got kind %d up to %d, want %d up to %d", text, closed, got.Token.Kind, got.At, kind, size)
		}
		if want != impl.OK && !reflect.DeepEqual(got, impl.TokenOut{Code: want}) {
			t.Fatalf("Next of %q, closed %v: told beside a code: %+v", text, closed, got)
		}
	}
}

// everyText: each text of up to so many of these pieces, behind what is ahead.
func everyText(ahead string, pieces []string, most int, visit func(string)) {
	visit(ahead)
	if most == 0 {
		return
	}
	for _, p := range pieces {
		everyText(ahead+p, pieces, most-1, visit)
	}
}

func TestNextAgainstForms(t *testing.T) {
	t.Parallel()
	for _, c := range []struct {
		ahead  string
		pieces string
		most   int
	}{
		{"<", "a / > = ' \" < ! ? - \t", 4},
		{"<a", "a / > = ' \" < b=''", 4},
		{"<a b=\"\"", "b / > = ' \" < \n", 4},
		{"<a b='' b", "b = ' > <", 4},
		{"</a", "a / > < \n", 4},
		{"<!--", "- > a < ]", 5},
		{"<![CDATA[", "] > a < ?", 5},
		{"<?p", "? > a < \n", 5},
		{"<?xm", "l ? > \n a", 5},
		{"<!DOCTYPE", "a > [ ] < \n", 5},
		{"<!DOCTYPE a[", "] > ' \" < <!-- --> <? ?> - \n", 4},
		{"<!DOCTYPE a[<!--", "- > ] ' ?", 5},
		{"<!", "- [ CDATA[ D DOC TYPE a > \n", 4},
		{"a", "] > a < & \n", 5},
	} {
		everyText(c.ahead, append(strings.Split(c.pieces, " "), " "), c.most, func(text string) {
			checkAgainstForms(t, text)
		})
	}
}

// Promise 2: what is told stays told, and what is wrong stays wrong, whatever stands behind it; what is short is so no more when it is closed.
func TestMarksGrow(t *testing.T) {
	whole := "<?p x?><!DOCTYPE a [<!ENTITY e ']'>]><!-- c --><a k='1' l = \"![CDATA[\"><b/>x]]y<![CDATA[]]]]></b\n><a k='1' k='1'>"
	for at := range whole {
		var told impl.TokenOut
		for size := at + 1; size <= len(whole); size++ {
			open := impl.Next(whole[:size], int64(at), false)
			closed := impl.Next(whole[:size], int64(at), true)
			if closed.Code == impl.ErrShort {
				t.Fatalf("Next of %q, %d: short when it is closed", whole[:size], at)
			}
			if open.Code != impl.ErrShort && !reflect.DeepEqual(open, closed) {
				t.Fatalf("Next of %q, %d: got %+v, closed %+v", whole[:size], at, open, closed)
			}
			if (told.Code != impl.OK || told.At > 0) && told.Code != impl.ErrShort && !reflect.DeepEqual(open, told) {
				t.Fatalf("Next of %q, %d: got %+v, with less behind it %+v", whole[:size], at, open, told)
			}
			told = open
		}
	}
}
