package tests

import (
	"regexp"
	"slices"
	"strconv"
	"strings"
	"testing"

	"loop.example/g00352/impl"
)

// A model of reading that goes by a list of texts to be read yet, without recursion or panic.
type model struct {
	closed bool
	dtd    impl.Dtd
	layers []layer
	open   []string
	told   []impl.Event
	headed bool
	ended  bool
	spent  int
	at     int
}

// A layer is the document, an entity's Text, or a text between marks in one of these.
type layer struct {
	text   string
	at     int
	name   string
	isText bool
	open   int
}

var referenceForm = regexp.MustCompile(`^&(?:#([0-9]{1,8})|#x([0-9a-fA-F]{1,8})|([A-Za-z:_\x{e9}][A-Za-z0-9:_.\x{e9}-]*));`)

// referred: the size of a reference, and the sign that it stands for, or the name of its entity; 0, if it is none.
func referred(text string) (int, string, string) {
	found := referenceForm.FindStringSubmatch(text)
	if found == nil {
		return 0, "", ""
	}
	base, digits := 10, found[1]
	if digits == "" {
		base, digits = 16, found[2]
	}
	if digits == "" {
		sign := map[string]string{"lt": "<", "gt": ">", "amp": "&", "apos": "'", "quot": "\""}[found[3]]
		return len(found[0]), sign, found[3]
	}
	n, _ := strconv.ParseInt(digits, base, 64)
	if !inside(n, characters) {
		return 0, "", ""
	}
	return len(found[0]), string(rune(n)), ""
}

// entered: the Text of an entity that is read within others.
func (m *model) entered(name string, within []string) (string, int64) {
	ent := impl.EntOf(m.dtd, name)
	switch m.spent += len(ent.Text); {
	case ent == impl.Ent{}:
		return "", impl.ErrNone
	case slices.Contains(within, name):
		return "", impl.ErrLoop
	case m.spent > 4000:
		return "", impl.ErrFull
	}
	return ent.Text, impl.OK
}

// A place of a value: the white that stands there as such is told from what a number says.
type placed struct {
	text string
	said bool
}

func (m *model) placedIn(text string, within []string) ([]placed, int64) {
	var out []placed
	for text != "" {
		size, sign, name := 1, text[:1], ""
		if sign == "<" {
			return nil, impl.ErrSyntax
		}
		said := sign == "&"
		if said {
			size, sign, name = referred(text)
		}
		if size == 0 {
			return nil, impl.ErrSyntax
		}
		text = text[size:]
		if sign != "" {
			out = append(out, placed{sign, said})
			continue
		}
		inner, code := m.entered(name, within)
		if code != impl.OK {
			return nil, code
		}
		more, code := m.placedIn(inner, append(slices.Clone(within), name))
		if code != impl.OK {
			return nil, code
		}
		out = append(out, more...)
	}
	return out, impl.OK
}

var manyBlanks = regexp.MustCompile(` +`)

func (m *model) value(text string, isWords bool) (string, int64) {
	var within []string
	for _, l := range m.layers {
		within = append(within, l.name)
	}
	l, code := m.placedIn(text, within)
	value := ""
	for _, p := range l {
		if !p.said && strings.Contains("\t\n ", p.text) {
			p.text = " "
		}
		value += p.text
	}
	if isWords {
		value = manyBlanks.ReplaceAllString(value, " ")
		value = strings.TrimSuffix(strings.TrimPrefix(value, " "), " ")
	}
	return value, code
}

func (m *model) attrs(token impl.Token) ([]impl.Attr, int64) {
	attrs := slices.Clone(token.Attrs)
	for _, a := range m.dtd.Atts {
		if a.Of == token.Name && a.Has && !slices.ContainsFunc(attrs, func(o impl.Attr) bool { return o.Name == a.Name }) {
			attrs = append(attrs, impl.Attr{Name: a.Name, Value: a.Value})
		}
	}
	for i := range attrs {
		value, code := m.value(attrs[i].Value, impl.AttOf(m.dtd, token.Name, attrs[i].Name).Words)
		if code != impl.OK {
			return nil, code
		}
		attrs[i].Value = value
	}
	return attrs, impl.OK
}

func (m *model) start(token impl.Token) int64 {
	if len(m.open) == 0 && m.ended {
		return impl.ErrSyntax
	}
	if len(m.open) >= 30 {
		return impl.ErrDeep
	}
	attrs, code := m.attrs(token)
	if code != impl.OK {
		return code
	}
	m.told = append(m.told, impl.Event{Kind: impl.EvStart, Name: token.Name, Attrs: attrs})
	m.open = append(m.open, token.Name)
	if token.Kind == impl.TkEmpty {
		m.end(token.Name)
	}
	return impl.OK
}

func (m *model) end(name string) {
	m.open = m.open[:len(m.open)-1]
	m.ended = len(m.open) == 0
	m.told = append(m.told, end(name))
}

func (m *model) token(token impl.Token, base int) int64 {
	inside := len(m.open) > 0
	switch token.Kind {
	case impl.TkStart, impl.TkEmpty:
		return m.start(token)
	case impl.TkEnd:
		if len(m.open) <= base || m.open[len(m.open)-1] != token.Name {
			return impl.ErrSyntax
		}
		m.end(token.Name)
	case impl.TkComment:
		m.told = append(m.told, remark(token.Text))
	case impl.TkPi:
		m.told = append(m.told, order(token.Name, token.Text))
	case impl.TkDoctype:
		if inside || m.headed || m.ended {
			return impl.ErrSyntax
		}
		out := impl.DtdRead(token.Text)
		m.headed, m.dtd = true, out.Dtd
		return out.Code
	case impl.TkCdata:
		if !inside {
			return impl.ErrSyntax
		}
		m.told = append(m.told, words(token.Text))
	case impl.TkText:
		if inside {
			m.layers = append(m.layers, layer{text: token.Text, isText: true})
		} else if strings.Trim(token.Text, "\t\n ") != "" {
			return impl.ErrSyntax
		}
	}
	return impl.OK
}

// step reads a mark, or a part of a text; the model is done with whatever code but -1.
func (m *model) step() int64 {
	top := len(m.layers) - 1
	l := &m.layers[top]
	if l.isText {
		return m.stepText(l)
	}
	if top == 0 {
		m.at = l.at
	}
	closed := m.closed || top > 0
	out := impl.Next(l.text, int64(l.at), closed)
	switch {
	case out.Code == impl.ErrEnd && !closed:
		return impl.ErrShort
	case out.Code == impl.ErrEnd && (len(m.open) != l.open || len(m.open) == 0 && !m.ended):
		return impl.ErrSyntax
	case out.Code == impl.ErrEnd && top == 0:
		return impl.OK
	case out.Code == impl.ErrEnd:
		m.layers = m.layers[:top]
		return -1
	case out.Code != impl.OK:
		return out.Code
	}
	l.at = int(out.At)
	return goOn(m.token(out.Token, l.open))
}

func goOn(code int64) int64 {
	if code == impl.OK {
		return -1
	}
	return code
}

func (m *model) stepText(l *layer) int64 {
	rest := l.text[l.at:]
	if rest == "" {
		m.layers = m.layers[:len(m.layers)-1]
		return -1
	}
	if rest[0] != '&' {
		m.told = append(m.told, words(rest[:1]))
		l.at++
		return -1
	}
	size, sign, name := referred(rest)
	if size == 0 {
		return impl.ErrSyntax
	}
	l.at += size
	if sign != "" {
		m.told = append(m.told, words(sign))
		return -1
	}
	var within []string
	for _, l := range m.layers {
		within = append(within, l.name)
	}
	text, code := m.entered(name, within)
	m.layers = append(m.layers, layer{text: text, name: name, open: len(m.open)})
	return goOn(code)
}

func modelRead(text string, closed bool) impl.EventsOut {
	text = impl.Ends(text)
	if impl.Runes(text).Code != impl.OK {
		return impl.EventsOut{Code: impl.ErrForm}
	}
	m := model{closed: closed, layers: []layer{{text: text}}}
	for _, line := range []string{firstLine, encodedLine} {
		if strings.HasPrefix(text, line) {
			m.layers[0].at = len(line)
		}
		if strings.HasPrefix(line, text) && text != line && !closed {
			return impl.EventsOut{Code: impl.ErrShort}
		}
	}
	code := int64(-1)
	for code < 0 {
		code = m.step()
	}
	return impl.EventsOut{Events: joined(m.told), At: int64(m.at), Code: code}
}

func checkModel(t *testing.T, text string) {
	t.Helper()
	for _, closed := range []bool{false, true} {
		got, want := impl.Read(text, closed), modelRead(text, closed)
		if !sameEvents(got, want) {
			t.Fatalf("Read of %q, closed %v:\n got %+v\nwant %+v", text, closed, got, want)
		}
		if got.Code == impl.OK {
			checkGoTogether(t, text, got.Events)
		}
	}
}

// checkFirstBytes: whatever a text is, of its first bytes the first events are told, and they stay.
func checkFirstBytes(t *testing.T, text string) {
	t.Helper()
	for _, closed := range []bool{false, true} {
		whole := impl.Read(text, closed)
		for size := range text {
			checkBegins(t, text[:size], impl.Read(text[:size], false).Events, whole.Events)
			if whole.Code == impl.OK {
				checkBegins(t, text[:size], impl.Read(text[:size], true).Events, whole.Events)
			}
		}
	}
}

var modelHead = headed(ent("e", "x<b/>&f;")+ent("f", "&#38;lt;\n")+ent("g", "<b k='&f;'>&h;</b>")+ent("h", "y&i;")+ent("i", "<b>&g;</b>")+ent("j", "</a><a>")+ent("k", "&#38;")+ent("l", "z&#13;")+"<!ATTLIST a k ID ' &f; ' m CDATA #IMPLIED><!ATTLIST b n NMTOKEN '1\t &k;'>", "")

func TestReadAgainstModel(t *testing.T) {
	t.Parallel()
	for _, c := range []struct {
		ahead  string
		pieces string
		most   int
	}{
		{"", "<a> </a> <a/> x <!--c--> <?p?> <![CDATA[]]> <!DOCTYPE~a> &lt; &x; ~ < </b> " + strings.ReplaceAll(firstLine, " ", "~"), 4},
		{"", "<a> </a> <b> </b> <b/> x <!---->", 6},
		{"<a>", "<![CDATA[c]]> <![CDATA[]]> x &amp; &#66; ~ <!----> <b/> </a> ]]> & ;", 4},
		{modelHead + "<a>", "&e; &f; &g; &h; &i; &j; &k; &l; x <b> </b> <![CDATA[k]]> </a>", 3},
		{modelHead, "<a~k='&e;'> <a~k='&f;~&f;'~m='~&f;'/> <a> </a> <b/> <b~n='&#10;&#32;'> </b> &f; <b~n='&h;'/> <b~n='&l;'~k='&k;'/>", 4},
		{"<", "? xml ~version=\"1.0\" ~encoding= \"UTF-8\" ?> <a/> a > ! DOCTYPE", 5},
		{"<!DOCTYPE a [", "<!ENTITY~e~'&f;'> <!ENTITY~f~'&e;'> <!ENTITY~f~'<b/>'> <!ATTLIST~a~k~ID~'~&e;'> ]> <a/> <a>&e;</a> <a~k='&f;'/> ]", 5},
	} {
		pieces := strings.Split(c.pieces, " ")
		for i := range pieces {
			pieces[i] = strings.ReplaceAll(pieces[i], "~", " ")
		}
		everyText(c.ahead, pieces, c.most, func(text string) {
			checkModel(t, text)
		})
	}
}

func TestFirstBytesOfEveryText(t *testing.T) {
	t.Parallel()
	everyText("", []string{"<a>", "</a>", "x\u20ac", "<!--c-->", "<b k=''/>", "&lt;", "&x;", "]]>"}, 4, func(text string) {
		checkFirstBytes(t, text)
	})
	everyText(modelHead+"<a>", []string{"&e;", "&f;", "&g;", "&k;", "<b/>", "</a>"}, 3, func(text string) {
		checkFirstBytes(t, text)
	})
}

// Each document with one of its bytes taken away, doubled, or made another.
func TestChangedDocuments(t *testing.T) {
	t.Parallel()
	for _, l := range documents {
		text := textOf(l)
		for i := range len(text) {
			checkModel(t, text[:i]+text[i+1:])
			checkModel(t, text[:i]+text[i:i+1]+text[i:])
			for _, sign := range []string{"<", ">", "&", ";", "'", "/", "!", "?", "-", "]", "[", " ", "\n", "\r", "x", "e", "\u00e9", "\xff", "%", "#"} {
				checkModel(t, text[:i]+sign+text[i+1:])
				checkModel(t, text[:i]+sign+text[i:])
			}
		}
	}
}

func TestModelOfDocuments(t *testing.T) {
	for _, l := range documents {
		text := textOf(l)
		for size := 0; size <= len(text); size++ {
			checkModel(t, text[:size])
		}
		checkFirstBytes(t, text)
	}
}
