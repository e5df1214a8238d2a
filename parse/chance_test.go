package parse

import (
	"math/rand"
	"reflect"
	"slices"
	"strconv"
	"strings"
	"testing"

	"seabag/api"
	"seabag/ast"
)

// maker makes commands that may be, by chance, of so many levels at most, and not many more than there is room for.
type maker struct {
	r    *rand.Rand
	room int
}

func (m *maker) chance(n int) bool { return m.r.Intn(n) == 0 }

func (m *maker) commands(least, left int) (l []ast.Node) {
	for range least + m.r.Intn(2) {
		if left > 0 {
			l = append(l, m.command(left))
		}
	}
	return l
}

// command is one of none of some kinds.
func (m *maker) command(left int, not ...int) ast.Node {
	m.room--
	kind := 1 + m.r.Intn(ast.Group)
	if slices.Contains(not, kind) || m.chance(3) {
		kind = ast.Simple
	}
	if left < 4 || m.room < 0 {
		return m.simple(left)
	}
	inner := func() []ast.Node { return m.commands(1, left-1) }
	alone := func(not ...int) ast.Node { return m.command(left-1, not...) }
	n := ast.Node{Kind: kind}
	switch kind {
	case ast.Simple:
		return m.simple(left)
	case ast.Pipe:
		for len(n.Lists) < 2 || m.chance(3) {
			n.Lists = append(n.Lists, list(alone(ast.Pipe, ast.And, ast.Or, ast.Not)))
		}
		return n
	case ast.And, ast.Or:
		return one(kind, alone(), alone(ast.And, ast.Or))
	case ast.Not:
		return one(kind, alone(ast.And, ast.Or, ast.Not))
	case ast.If:
		n.Lists = [][]ast.Node{inner(), inner()}
		if m.chance(2) {
			n.Lists = append(n.Lists, inner())
		}
	case ast.While, ast.Until:
		n.Lists = [][]ast.Node{inner(), inner()}
	case ast.For:
		n.Name, n.Lists = m.name(), [][]ast.Node{inner()}
		for m.chance(2) {
			n.Words = append(n.Words, m.word(1, left-1))
		}
		if m.chance(3) {
			n.Words = [][]ast.Part{word(inQuotes(param("@")))}
		}
	case ast.Case:
		n.Words = [][]ast.Part{m.word(1, left-1)}
		for m.r.Intn(3) > 0 {
			a := arm([][]ast.Part{m.word(1, left-1)}, m.commands(0, left-1)...)
			for m.chance(2) {
				a.Words = append(a.Words, m.word(1, left-1))
			}
			n.Arms = append(n.Arms, a)
		}
	case ast.Func:
		body := alone(ast.Simple, ast.Pipe, ast.And, ast.Or, ast.Not, ast.Func)
		if body.Kind == ast.Simple {
			body = one(ast.Group, of("a"))
		}
		name := m.name()
		if ast.Reserved(name) {
			name += "_"
		}
		return function(name, body)
	case ast.Sub, ast.Group:
		n.Lists = [][]ast.Node{inner()}
	}
	for m.chance(3) {
		n.Redirs = append(n.Redirs, m.redir(left-1))
	}
	return n
}

func (m *maker) simple(left int) ast.Node {
	n := ast.Node{Kind: ast.Simple}
	for m.chance(3) {
		n.Assigns = append(n.Assigns, ast.Assign{Name: m.name(), Word: m.word(0, left-1)})
	}
	for left > 1 && m.r.Intn(3) > 0 {
		n.Words = append(n.Words, m.word(1, left-1))
	}
	for left > 1 && m.chance(3) {
		n.Redirs = append(n.Redirs, m.redir(left-1))
	}
	if ast.Right(list(n), left) {
		return n
	}
	if left > 1 {
		n.Words = append([][]ast.Part{word(bare("a"))}, n.Words...)
		return n
	}
	return setting(m.name())
}

func (m *maker) name() string {
	return pick(m.r, 1, "a", "b1", "_", "X", "if", "done", "E", "in", "aB_9", "esac")
}

func (m *maker) word(least, left int) (w []ast.Part) {
	for left > 0 && (len(w) < least || m.chance(2)) {
		if next := append(w, m.part(left)); ast.Right(list(setting("x", next...)), 99) {
			w = next
		}
	}
	return w
}

func (m *maker) part(left int) ast.Part {
	m.room--
	kind, q := 1+m.r.Intn(4), m.chance(2)
	if kind == ast.Cmd && (left < 2 || m.room < 0) {
		kind = ast.Lit
	}
	switch kind {
	case ast.Lit:
		if q {
			return quoted(pick(m.r, m.r.Intn(5), "a", "b c", "'", "\n", "\\", "$", "`", "\"", "\xff", "#", "}", "{", ")", "%", "if", "&&", "\t", "=", "1", "*"))
		}
		return bare(pick(m.r, 1+m.r.Intn(3), "a", "/", "%", "=", "if", "esac", "~", "*", "!", "1", "in", "-", ":"))
	case ast.Cmd:
		return ast.Part{Kind: ast.Cmd, Quoted: q, Body: m.commands(0, left-1)}
	case ast.Arith:
		return ast.Part{Kind: ast.Arith, Quoted: q, Text: pick(m.r, m.r.Intn(3), "1", " ", "+", "(a)", "$x", "((2))", "\n", "<<")}
	}
	p := ast.Part{Kind: ast.Param, Quoted: q, Text: pick(m.r, 1, "x", "y_1", "if", "0", "1", "10", "9999", "@", "*", "#", "?", "-", "$", "!")}
	switch m.r.Intn(3) {
	case 1:
		p.Op = "len"
	case 2:
		p.Op = pick(m.r, 1, "-", ":-", "=", ":=", "?", ":?", "+", ":+", "#", "##", "%", "%%")
		p.Word = m.word(0, left-1)
	}
	if !ast.Right(list(setting("x", p)), 99) {
		p.Op, p.Word = "", nil
	}
	return p
}

func (m *maker) redir(left int) ast.Redir {
	if m.chance(2) {
		return to(m.r.Intn(10), pick(m.r, 1, "<", ">", ">>", "<>", ">|", "<&", ">&"), m.word(1, left)...)
	}
	x := doc(m.r.Intn(10), m.name())
	for m.r.Intn(3) > 0 {
		p := m.part(1)
		p.Quoted, p.Op, p.Word, p.Body = true, "", nil, nil
		p.Text = strings.ReplaceAll(p.Text, "\n", " ")
		if p.Kind == ast.Lit {
			p.Text += pick(m.r, m.r.Intn(3), "\n", "E\n", "\t", "if\n", "a", "\\\n", "\\", "$", "$x")
		}
		if next := append(slices.Clone(x.Word), p); ast.Right(list(setting("x", next...)), 99) {
			x.Word = next
		}
	}
	if last := len(x.Word) - 1; last >= 0 && x.Word[last].Kind == ast.Lit {
		x.Word[last].Text += "\n"
	} else if last >= 0 {
		x.Word = append(x.Word, quoted("\n"))
	}
	if !ast.Right(list(with(of("a"), x)), 99) {
		x.Tag = "Z0"
	}
	return x
}

// P15.2: commands by chance, that may be, no deeper than so many levels, written, are read as these commands.
func TestShownByChance(t *testing.T) {
	t.Parallel()
	size := 0
	for seed := range 12000 {
		r := rand.New(rand.NewSource(int64(15000 + seed)))
		m := &maker{r, 60}
		l := m.commands(1, 1+r.Intn(14))
		s := ast.Show(l)
		checkParse(t, s, l...)
		size += len(s)
		if t.Failed() {
			return
		}
	}
	if size < 2000000 {
		t.Error("only", size, "bytes")
	}
}

// speller writes commands in any of the ways in which they may be written.
type speller struct {
	r    *rand.Rand
	docs []string // whose lines come behind the next newline
}

func (m *speller) chance(n int) bool { return m.r.Intn(n) == 0 }

func (m *speller) one(l ...string) string { return l[m.r.Intn(len(l))] }

// blank are blanks, the first of which ends a word.
func (m *speller) blank() string {
	return m.one(" ", " ", " ", "\t", "  ", " \\\n", "\t\\\n\\\n ")
}

// maybe are blanks, or nothing.
func (m *speller) maybe() string { return m.one("", "", "", m.blank()) }

// after is what may stand behind a sign.
func (m *speller) after() string { return m.one("", "", m.blank(), m.blank(), "\\\n", "\\\n\t") }

// newline is a newline, with the here-documents behind it.
func (m *speller) newline() string {
	s := m.maybe()
	if m.chance(4) {
		s = m.blank() + m.one("#", "# it's", "#( \" ` $(", "#;; \\", "##\x00 <<E")
	}
	s += "\n" + strings.Join(m.docs, "")
	m.docs = nil
	return s
}

// lines are newlines and blanks, or nothing.
func (m *speller) lines() string {
	s := m.after()
	for m.chance(3) {
		s += m.newline() + m.after()
	}
	return s
}

// gap is what stands behind a reserved word.
func (m *speller) gap() string {
	if m.chance(2) {
		return m.blank() + m.lines()
	}
	return m.newline() + m.lines()
}

// separator is what stands between two commands.
func (m *speller) separator() string {
	if m.chance(3) {
		return m.maybe() + "; " + m.lines()
	}
	return m.one("", m.maybe()+";") + m.newline() + m.lines()
}

// closed tells whether a command's end shows where no ; is.
func closed(n ast.Node) bool {
	switch n.Kind {
	case ast.Simple:
		return false
	case ast.Pipe, ast.And, ast.Or, ast.Not:
		return closed(n.Lists[len(n.Lists)-1][0])
	}
	return true
}

// commands are some, up to a reserved word, or a sign, ahead of which no ; has to be.
func (m *speller) commands(l []ast.Node, sign bool) string {
	s := ""
	for i, n := range l {
		s += m.command(n)
		switch {
		case i < len(l)-1 || m.chance(2) || !sign && !closed(n):
			s += m.separator()
		case !sign:
			s += m.blank()
		}
	}
	return s
}

// within is commands behind a reserved word.
func (m *speller) within(l []ast.Node) string {
	ahead := m.gap()
	s := m.commands(l, false)
	if strings.HasPrefix(s, "(") && !strings.Contains(ahead, "\n") && m.chance(2) {
		return s
	}
	return ahead + s
}

func (m *speller) script(l []ast.Node) string {
	s := m.lines() + m.commands(l, true)
	if len(m.docs) > 0 || m.chance(2) {
		return s + m.newline() + m.lines()
	}
	return s + m.maybe()
}

func (m *speller) command(n ast.Node) string {
	switch n.Kind {
	case ast.Simple:
		return m.simple(n)
	case ast.Pipe:
		s := m.command(n.Lists[0][0])
		for _, l := range n.Lists[1:] {
			s += m.maybe() + "|" + m.lines() + m.command(l[0])
		}
		return s
	case ast.And, ast.Or:
		s := m.command(n.Lists[0][0]) + m.maybe() + map[int]string{ast.And: "&&", ast.Or: "||"}[n.Kind] + m.lines()
		return s + m.command(n.Lists[1][0])
	case ast.Not:
		return "!" + m.blank() + m.command(n.Lists[0][0])
	case ast.Func:
		return n.Name + m.maybe() + "(" + m.after() + ")" + m.lines() + m.command(n.Lists[0][0])
	}
	s := m.compound(n)
	for _, r := range n.Redirs {
		x := m.redir(r)
		if x[0] != '<' && x[0] != '>' {
			s += m.blank()
		}
		s += x
	}
	return s
}

func (m *speller) compound(n ast.Node) string {
	switch n.Kind {
	case ast.Sub:
		return "(" + m.lines() + m.commands(n.Lists[0], true) + ")"
	case ast.Group:
		return "{" + m.within(n.Lists[0]) + "}"
	case ast.If:
		return "if" + m.branches(n.Lists)
	case ast.While, ast.Until:
		s := map[int]string{ast.While: "while", ast.Until: "until"}[n.Kind] + m.within(n.Lists[0])
		return s + "do" + m.within(n.Lists[1]) + "done"
	case ast.For:
		return m.loop(n)
	}
	s := "case" + m.blank() + m.word(n.Words[0]) + m.gap() + "in" + m.gap()
	for i, a := range n.Arms {
		s += m.arm(a, i == len(n.Arms)-1)
	}
	return s + "esac"
}

func (m *speller) branches(l [][]ast.Node) string {
	s := m.within(l[0]) + "then" + m.within(l[1])
	if len(l) == 2 {
		return s + "fi"
	}
	if x := l[2]; len(x) == 1 && x[0].Kind == ast.If && len(x[0].Redirs) == 0 && m.chance(2) {
		return s + "elif" + m.branches(x[0].Lists)
	}
	return s + "else" + m.within(l[2]) + "fi"
}

func (m *speller) loop(n ast.Node) string {
	s := "for" + m.blank() + n.Name
	if reflect.DeepEqual(n.Words, [][]ast.Part{word(inQuotes(param("@")))}) && m.chance(2) {
		if m.chance(2) {
			s += m.gap()
		} else if m.chance(2) {
			s += m.gap() + ";" + m.lines()
		} else {
			s += ";" + m.lines()
		}
	} else {
		s += m.gap() + "in"
		for _, w := range n.Words {
			s += m.blank() + m.word(w)
		}
		s += m.separator()
	}
	return s + "do" + m.within(n.Lists[0]) + "done"
}

func (m *speller) arm(a ast.Arm, last bool) string {
	s := m.word(a.Words[0])
	if strings.HasPrefix(s, "esac") || m.chance(2) {
		s = "(" + m.after() + s
	}
	for _, w := range a.Words[1:] {
		s += m.maybe() + "|" + m.after() + m.word(w)
	}
	s += m.maybe() + ")" + m.lines()
	if last && m.chance(2) {
		return s + m.commands(a.Body, false)
	}
	return s + m.commands(a.Body, true) + ";;" + m.lines()
}

// simple lays redirections among assignments and words.
func (m *speller) simple(n ast.Node) string {
	var l []string
	redirs := n.Redirs
	take := func() {
		for len(redirs) > 0 && m.chance(3) {
			l = append(l, m.redir(redirs[0]))
			redirs = redirs[1:]
		}
	}
	for _, a := range n.Assigns {
		take()
		l = append(l, m.bare(a.Name+"=", false)+m.word(a.Word))
	}
	for i, w := range n.Words {
		if s, q, ok := ast.Plain(w); i > 0 || !(ok && !q && ast.Name(s)) || len(n.Assigns) > 0 {
			take()
		}
		l = append(l, m.word(w))
	}
	for _, r := range redirs {
		l = append(l, m.redir(r))
	}
	s := l[0]
	for _, x := range l[1:] {
		if !strings.HasPrefix(x, "<") && !strings.HasPrefix(x, ">") || len(s) > 0 && s[len(s)-1] >= '0' && s[len(s)-1] <= '9' || m.chance(2) {
			s += m.blank()
		}
		s += x
	}
	return s
}

func (m *speller) redir(r ast.Redir) string {
	fd := strconv.Itoa(r.Fd)
	if (r.Fd == 0) == (r.Op[0] == '<') && r.Fd < 2 && m.chance(2) {
		fd = ""
	}
	if r.Op != "<<" {
		return fd + r.Op + m.after() + m.word(r.Word)
	}
	text, tag := r.Doc(), r.Tag
	if r.Literal() && m.chance(2) {
		tag = m.one("'"+tag+"'", "\""+tag+"\"", "\\"+tag, tag+"''", "\"\""+tag)
	} else {
		text = m.lined(r)
		tag = m.bare(tag, false)
	}
	end := r.Tag + "\n"
	if !strings.Contains("\n"+text, "\n\t") && m.chance(2) {
		lines := strings.SplitAfter(text+end, "\n")
		text, end = "", ""
		for _, x := range lines[:len(lines)-1] {
			text += m.one("", "\t", "\t\t") + x
		}
		m.docs = append(m.docs, text)
		return fd + "<<-" + m.after() + tag
	}
	m.docs = append(m.docs, text+end)
	return fd + "<<" + m.after() + tag
}

// lined is a here-document whose tag isn't quoted.
func (m *speller) lined(r ast.Redir) string {
	s, broken := "", false
	for i, p := range r.Word {
		if p.Kind != ast.Lit {
			x := m.part(p)
			if p.Kind == ast.Param && p.Text != "#" && i+1 < len(r.Word) && !strings.HasPrefix(x, "${") {
				x += "\\\n" // a name would go on with what stands behind it
				broken = true
			}
			s += x
			continue
		}
		for k := range len(p.Text) {
			switch c := p.Text[k : k+1]; {
			case strings.Contains("$`\\", c):
				s += "\\" + c
			case m.chance(20):
				s += "\\\n" + c
				broken = true
			default:
				s += c
			}
		}
	}
	// Of the lines that go on, none may be the tag by itself, or begin with a tab that would go.
	if broken && (strings.Contains("\n"+s, "\n"+r.Tag+"\n") || strings.Contains(s, "\\\n\t")) {
		if r.Literal() {
			r.Word = append(slices.Clone(r.Word), inQuotes(param("x"))) // so that Doc writes it as lines that are looked through
			return strings.TrimSuffix(r.Doc(), "${x}")
		}
		return r.Doc()
	}
	return s
}

// bare is bytes that aren't quoted, on lines that go on.
func (m *speller) bare(s string, begun bool) string {
	out := ""
	for i := range len(s) {
		if (i > 0 || begun) && m.chance(12) {
			out += "\\\n"
		}
		out += s[i : i+1]
	}
	return out
}

func (m *speller) word(w []ast.Part) string { return m.parts(w, false) }

// parts is a word; one in braces has no } but in quotes.
func (m *speller) parts(w []ast.Part, braces bool) string {
	s, open := "", false
	add := func(x string) {
		if m.goesOn(s, x) {
			x = "\\\n" + x
		}
		s += x
	}
	shut := func() {
		if open {
			add("\"")
		}
		open = false
	}
	for _, p := range w {
		switch {
		case p.Kind == ast.Lit && !p.Quoted:
			shut()
			add(m.bare(p.Text, s != ""))
		case p.Kind == ast.Lit && p.Text == "":
			shut()
			add(m.one("''", "\"\"", "\"\\\n\"", "''\"\"", "''\\\n''"))
		case p.Kind == ast.Lit:
			for k := range len(p.Text) {
				m.quoted(p.Text[k:k+1], &open, add, s != "" && !braces)
			}
		case p.Quoted:
			if !open {
				add(m.one("", "", "", "''", "\"\"", "\"\"''") + "\"") // which go, ahead of what is quoted
				open = true
			}
			add(m.part(p))
		default:
			shut()
			add(m.part(p))
		}
		if m.chance(3) {
			shut()
		}
	}
	shut()
	return s
}

// goesOn tells whether a parameter's name, at a text's end, would go on with what comes.
func (m *speller) goesOn(s, next string) bool {
	end := len(s)
	for end > 0 && (ast.Name(s[end-1:end]) || ast.Number(s[end-1:end])) {
		end--
	}
	return end > 0 && s[end-1] == '$' && ast.Name(s[end:]) && next != "" && (ast.Name(next[:1]) || ast.Number(next[:1]))
}

// quoted is one byte, quoted in one of the ways.
func (m *speller) quoted(c string, open *bool, add func(string), raw bool) {
	if *open && m.chance(4) {
		add("\"")
		*open = false
	}
	if *open {
		if strings.Contains("$`\"\\", c) {
			c = "\\" + c
		} else if m.chance(12) {
			c = "\\\n" + c
		}
		add(c)
		return
	}
	switch m.r.Intn(4) {
	case 0:
		if c != "\n" {
			add("\\" + c)
			return
		}
	case 1:
		*open = true
		add("\"")
		m.quoted(c, open, add, raw)
		return
	case 2:
		if raw && strings.Contains("{}#\xff", c) {
			add(c)
			return
		}
	}
	if c == "'" {
		add("\\'")
	} else {
		add("'" + c + "'")
	}
}

func (m *speller) part(p ast.Part) string {
	switch p.Kind {
	case ast.Arith:
		return "$((" + p.Text + "))"
	case ast.Cmd:
		outer := m.docs
		m.docs = nil
		s := m.lines() + m.commands(p.Body, true)
		if len(m.docs) > 0 {
			s += m.newline()
		}
		m.docs = outer
		if strings.HasPrefix(s, "(") {
			s = " " + s
		}
		return "$(" + s + ")"
	}
	switch {
	case p.Op == "len":
		return "${#" + p.Text + "}"
	case p.Op == "%" && len(p.Word) > 0 && p.Word[0].Kind == ast.Lit && p.Word[0].Text == "%" && m.chance(2):
		return "${" + p.Text + "%\\\n%" + m.parts(p.Word[1:], true) + "}"
	case p.Op != "":
		return "${" + p.Text + p.Op + m.parts(p.Word, true) + "}"
	case (ast.Name(p.Text) || len(p.Text) == 1) && m.chance(2):
		return "$" + p.Text
	}
	return "${" + p.Text + "}"
}

// P15.1, P15.2: commands by chance, written in any way, are read as these commands, and again as they are written then.
func TestSpeltByChance(t *testing.T) {
	t.Parallel()
	size := 0
	for seed := range 20000 {
		r := rand.New(rand.NewSource(int64(151000 + seed)))
		m := &maker{r, 40}
		l := m.commands(1, 1+r.Intn(12))
		s := (&speller{r: r}).script(l)
		checkParse(t, s, l...)
		checkAgain(t, s, l)
		size += len(s)
		if t.Failed() {
			return
		}
	}
	if size < 2000000 {
		t.Error("only", size, "bytes")
	}
}

var _ = api.OK
