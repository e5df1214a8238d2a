package ast

import (
	"math"
	"math/rand"
	"reflect"
	"regexp"
	"slices"
	"strconv"
	"strings"
	"testing"
)

func repeat(s string, n int) string { return strings.Repeat(s, n) }

// short is a text that a failing test can show.
func short(s string) string {
	if len(s) > 400 {
		return strconv.Quote(s[:400]) + ".. (" + strconv.Itoa(len(s)) + " bytes)"
	}
	return strconv.Quote(s)
}

// pick is a text of so many pieces.
func pick(r *rand.Rand, n int, pieces ...string) string {
	var s strings.Builder
	for range n {
		s.WriteString(pieces[r.Intn(len(pieces))])
	}
	return s.String()
}

// The trees of the tests, in short.

func bare(s string) Part   { return Part{Kind: Lit, Text: s} }
func quoted(s string) Part { return Part{Kind: Lit, Text: s, Quoted: true} }
func param(s string) Part  { return Part{Kind: Param, Text: s} }
func sum(s string) Part    { return Part{Kind: Arith, Text: s} }
func cmd(l ...Node) Part   { return Part{Kind: Cmd, Body: l} }
func op(s, op string, w ...Part) Part {
	return Part{Kind: Param, Text: s, Op: op, Word: w}
}
func inQuotes(p Part) Part {
	p.Quoted = true
	return p
}
func word(l ...Part) []Part { return l }

// of is a simple command of words that are bytes alone, none of them quoted.
func of(l ...string) Node {
	n := Node{Kind: Simple}
	for _, s := range l {
		n.Words = append(n.Words, word(bare(s)))
	}
	return n
}

func list(l ...Node) []Node { return l }

func node(kind int, l ...[]Node) Node { return Node{Kind: kind, Lists: l} }

// one is a command of commands, each in a list of its own.
func one(kind int, l ...Node) Node {
	n := Node{Kind: kind}
	for _, x := range l {
		n.Lists = append(n.Lists, list(x))
	}
	return n
}

func with(n Node, l ...Redir) Node {
	n.Redirs = append(slices.Clone(n.Redirs), l...)
	return n
}

func saying(w ...Part) Node { return Node{Kind: Simple, Words: [][]Part{w}} }

func to(fd int, op string, w ...Part) Redir { return Redir{Fd: fd, Op: op, Word: w} }

func doc(fd int, tag string, w ...Part) Redir { return Redir{Fd: fd, Op: "<<", Tag: tag, Word: w} }

func function(name string, n Node) Node {
	return Node{Kind: Func, Name: name, Lists: [][]Node{{n}}}
}

func loop(name string, words [][]Part, l ...Node) Node {
	return Node{Kind: For, Name: name, Words: words, Lists: [][]Node{l}}
}

func choice(w []Part, l ...Arm) Node { return Node{Kind: Case, Words: [][]Part{w}, Arms: l} }

// The model of texts: regular expressions, and brackets that are taken out in pairs.

var (
	modelBare     = regexp.MustCompile(`\A[a-zA-Z0-9_./,+:@*?\[\]!^=~%-]\z`)
	modelName     = regexp.MustCompile(`\A[A-Za-z_][A-Za-z0-9_]*\z`)
	modelNumber   = regexp.MustCompile(`\A(0|[1-9][0-9]{0,3})\z`)
	modelSpecial  = regexp.MustCompile(`\A[@*#?$!-]\z`)
	modelReserved = regexp.MustCompile(`\A(if|then|elif|else|fi|while|until|do|done|for|in|case|esac|!|\{|\})\z`)
	modelOp       = regexp.MustCompile(`\A(:?[-=?+]|##?|%%?)\z`)
	modelSumBytes = regexp.MustCompile(`\A[a-zA-Z0-9 \t\n_+\-*/%<>=!&|^~?:$()]*\z`)
	notBrackets   = regexp.MustCompile(`[^()]`)
	modelSets     = regexp.MustCompile(`\A[A-Za-z_][A-Za-z0-9_]*=`)
)

func modelSum(s string) bool {
	if !modelSumBytes.MatchString(s) {
		return false
	}
	s = notBrackets.ReplaceAllString(s, "")
	for strings.Contains(s, "()") {
		s = strings.ReplaceAll(s, "()", "")
	}
	return s == ""
}

func modelBareText(s string) bool {
	for i := range len(s) {
		if !modelBare.MatchString(s[i : i+1]) {
			return false
		}
	}
	return s != ""
}

// The model of trees: all commands, parts, words and redirections that there are, each asked by itself.

type all struct {
	nodes  []*Node
	parts  []*Part
	words  []*[]Part // those of parameters, assignments and redirections too
	redirs []*Redir
	arms   []*Arm
	sets   []*Assign
	lists  []*[]Node
	deep   int
}

// gather tells all of some commands, and how deep they are, with a list of what is still to be looked at.
func gather(l []Node) *all {
	type open struct {
		level int
		nodes []Node
		parts []Part
	}
	a := &all{}
	todo := []open{{1, l, nil}}
	for len(todo) > 0 {
		x := todo[0]
		todo = todo[1:]
		if len(x.nodes)+len(x.parts) > 0 {
			a.deep = max(a.deep, x.level)
		}
		addWord := func(w *[]Part) {
			a.words = append(a.words, w)
			todo = append(todo, open{x.level + 1, nil, *w})
		}
		addList := func(l *[]Node) {
			a.lists = append(a.lists, l)
			todo = append(todo, open{x.level + 1, *l, nil})
		}
		for i := range x.parts {
			p := &x.parts[i]
			a.parts = append(a.parts, p)
			addWord(&p.Word)
			addList(&p.Body)
		}
		for i := range x.nodes {
			n := &x.nodes[i]
			a.nodes = append(a.nodes, n)
			for k := range n.Assigns {
				a.sets = append(a.sets, &n.Assigns[k])
				addWord(&n.Assigns[k].Word)
			}
			for k := range n.Words {
				addWord(&n.Words[k])
			}
			for k := range n.Redirs {
				a.redirs = append(a.redirs, &n.Redirs[k])
				addWord(&n.Redirs[k].Word)
			}
			for k := range n.Lists {
				addList(&n.Lists[k])
			}
			for k := range n.Arms {
				a.arms = append(a.arms, &n.Arms[k])
				for m := range n.Arms[k].Words {
					addWord(&n.Arms[k].Words[m])
				}
				addList(&n.Arms[k].Body)
			}
		}
	}
	return a
}

// rule is what a kind of commands has: fields by letters, so many lists, and kinds that aren't in them.
type rule struct {
	fields      string
	least, most int
	not         []int
}

var rules = map[int]rule{
	Simple: {"AWR", 0, 0, nil},
	Pipe:   {"L", 2, math.MaxInt, []int{Pipe, And, Or, Not}},
	And:    {"L", 2, 2, []int{And, Or}},
	Or:     {"L", 2, 2, []int{And, Or}},
	Not:    {"L", 1, 1, []int{And, Or, Not}},
	If:     {"LR", 2, 3, nil},
	While:  {"LR", 2, 2, nil},
	Until:  {"LR", 2, 2, nil},
	For:    {"NWLR", 1, 1, nil},
	Case:   {"WMR", 0, 0, nil},
	Func:   {"NL", 1, 1, []int{Simple, Pipe, And, Or, Not, Func}},
	Sub:    {"LR", 1, 1, nil},
	Group:  {"LR", 1, 1, nil},
}

func fields(n Node) string {
	s := ""
	for _, x := range []struct {
		letter string
		there  bool
	}{{"N", n.Name != ""}, {"A", len(n.Assigns) > 0}, {"W", len(n.Words) > 0}, {"R", len(n.Redirs) > 0}, {"L", len(n.Lists) > 0}, {"M", len(n.Arms) > 0}} {
		if x.there {
			s += x.letter
		}
	}
	return s
}

func modelNode(n Node) bool {
	x, there := rules[n.Kind]
	if !there || strings.Trim(fields(n), x.fields) != "" || len(n.Lists) < x.least || len(n.Lists) > x.most {
		return false
	}
	for i, l := range n.Lists {
		if len(l) == 0 || x.not != nil && len(l) > 1 {
			return false
		}
		if slices.Contains(x.not, l[0].Kind) && !(i == 0 && (n.Kind == And || n.Kind == Or)) {
			return false
		}
	}
	for _, w := range n.Words {
		if len(w) == 0 {
			return false
		}
	}
	for _, a := range n.Arms {
		if len(a.Words) == 0 || slices.ContainsFunc(a.Words, func(w []Part) bool { return len(w) == 0 }) {
			return false
		}
	}
	switch n.Kind {
	case Simple:
		if len(n.Words) > 0 && n.Words[0][0].Kind == Lit && !n.Words[0][0].Quoted {
			s := n.Words[0][0].Text
			return !modelSets.MatchString(s) && !(len(n.Words[0]) == 1 && modelReserved.MatchString(s))
		}
		return fields(n) != ""
	case For:
		return modelName.MatchString(n.Name)
	case Case:
		return len(n.Words) == 1
	case Func:
		return modelName.MatchString(n.Name) && !modelReserved.MatchString(n.Name)
	}
	return true
}

func modelPart(p Part) bool {
	text, op, w, body := p.Text != "", p.Op != "", len(p.Word) > 0, len(p.Body) > 0
	switch p.Kind {
	case Lit:
		return !op && !w && !body && (p.Quoted && !strings.Contains(p.Text, "\x00") || !p.Quoted && modelBareText(p.Text))
	case Cmd:
		return !text && !op && !w
	case Arith:
		return !op && !w && !body && modelSum(p.Text)
	case Param:
		variable := modelName.MatchString(p.Text) || modelNumber.MatchString(p.Text)
		if body || !variable && !modelSpecial.MatchString(p.Text) {
			return false
		}
		if p.Op == "" || p.Op == "len" {
			return !w && (p.Op == "" || variable)
		}
		twice := p.Op == "%" && w && p.Word[0].Kind == Lit && !p.Word[0].Quoted && strings.Index(p.Word[0].Text, "%") == 0
		return modelOp.MatchString(p.Op) && p.Text != "#" && !twice
	}
	return false
}

func modelWord(w []Part) bool {
	for i := 1; i < len(w); i++ {
		a, b := w[i-1], w[i]
		if a.Kind == Lit && b.Kind == Lit && a.Quoted == b.Quoted || a.Kind == Lit && a.Text == "" && b.Quoted {
			return false
		}
	}
	return true
}

func modelLiteral(r Redir) bool {
	return len(r.Word) == 0 || len(r.Word) == 1 && r.Word[0].Kind == Lit
}

func modelDoc(r Redir) string {
	s := ""
	for _, p := range r.Word {
		switch {
		case modelLiteral(r):
			s += p.Text
		case p.Kind == Lit:
			s += regexp.MustCompile("[\\\\$`]").ReplaceAllString(p.Text, `\$0`)
		case p.Kind == Param:
			s += "${" + p.Text + "}"
		case p.Kind == Arith:
			s += "$((" + p.Text + "))"
		}
	}
	return s
}

func modelRedir(r Redir) bool {
	if r.Fd < 0 || r.Fd > 9 {
		return false
	}
	if r.Op != "<<" {
		return slices.Contains([]string{"<", ">", ">>", "<>", ">|", "<&", ">&"}, r.Op) && r.Tag == "" && len(r.Word) > 0
	}
	for _, p := range r.Word {
		lit, plain, told := p.Kind == Lit, p.Kind == Param && p.Op == "", p.Kind == Arith && !strings.Contains(p.Text, "\n")
		if !p.Quoted || !lit && !plain && !told {
			return false
		}
	}
	s := modelDoc(r)
	lines := strings.Split(s, "\n")
	return modelName.MatchString(r.Tag) && (len(r.Word) == 0 || s != "" && lines[len(lines)-1] == "") && !slices.Contains(lines, r.Tag)
}

func modelRight(l []Node, deep int) bool {
	a := gather(l)
	for _, n := range a.nodes {
		if !modelNode(*n) {
			return false
		}
	}
	for _, p := range a.parts {
		if !modelPart(*p) {
			return false
		}
	}
	for _, w := range a.words {
		if !modelWord(*w) {
			return false
		}
	}
	for _, r := range a.redirs {
		if !modelRedir(*r) {
			return false
		}
	}
	for _, x := range a.sets {
		if !modelName.MatchString(x.Name) {
			return false
		}
	}
	return a.deep <= deep
}

// The model of writing: pieces of text, newlines and here-documents, of which at last each is laid behind the newline that comes next.

type piece struct {
	sort string // text, newline or doc
	text string
}

func texts(l ...string) (out []piece) {
	for _, s := range l {
		out = append(out, piece{"text", s})
	}
	return out
}

func end() []piece { return []piece{{"newline", "\n"}} }

func between(sign string, l ...[]piece) (out []piece) {
	for i, x := range l {
		if i > 0 {
			out = append(out, piece{"text", sign})
		}
		out = append(out, x...)
	}
	return out
}

func laid(l []piece) string {
	s := ""
	for i, x := range l {
		if x.sort == "doc" {
			continue
		}
		s += x.text
		if x.sort == "newline" {
			from := i
			for from > 0 && l[from-1].sort != "newline" {
				from--
			}
			for _, d := range l[from:i] {
				if d.sort == "doc" {
					s += d.text
				}
			}
		}
	}
	return s
}

func modelShow(l []Node) string { return laid(modelCommands(l)) }

func modelCommands(l []Node) (out []piece) {
	for _, n := range l {
		out = append(append(out, modelCommand(n)...), end()...)
	}
	return out
}

func modelCommand(n Node) []piece {
	var each, words, redirs [][]piece
	for _, l := range n.Lists {
		each = append(each, modelCommands(l))
	}
	for _, w := range n.Words {
		words = append(words, texts(modelSaid(w)))
	}
	for _, r := range n.Redirs {
		redirs = append(redirs, modelTo(r))
	}
	part := func(i int, word string) []piece {
		return slices.Concat(texts(word), end(), each[i])
	}
	var out []piece
	switch n.Kind {
	case Simple:
		var sets [][]piece
		for _, a := range n.Assigns {
			sets = append(sets, texts(a.Name+"="+modelSaid(a.Word)))
		}
		return between(" ", slices.Concat(sets, words, redirs)...)
	case Pipe, And, Or:
		sign := map[int]string{Pipe: " | ", And: " && ", Or: " || "}[n.Kind]
		var l [][]piece
		for _, x := range n.Lists {
			l = append(l, modelCommand(x[0]))
		}
		return between(sign, l...)
	case Not:
		return between(" ", texts("!"), modelCommand(n.Lists[0][0]))
	case Func:
		return between(" ", texts(n.Name+"()"), modelCommand(n.Lists[0][0]))
	case If:
		out = slices.Concat(part(0, "if"), part(1, "then"))
		if len(each) == 3 {
			out = append(out, part(2, "else")...)
		}
		out = append(out, texts("fi")...)
	case While, Until:
		out = slices.Concat(part(0, map[int]string{While: "while", Until: "until"}[n.Kind]), part(1, "do"), texts("done"))
	case For:
		out = slices.Concat(between(" ", append([][]piece{texts("for"), texts(n.Name), texts("in")}, words...)...), end(), part(0, "do"), texts("done"))
	case Case:
		out = slices.Concat(between(" ", texts("case"), words[0], texts("in")), end())
		for _, a := range n.Arms {
			var l [][]piece
			for _, w := range a.Words {
				l = append(l, texts(modelSaid(w)))
			}
			out = slices.Concat(out, texts("("), between(" | ", l...), texts(")"), end(), modelCommands(a.Body), texts(";;"), end())
		}
		out = append(out, texts("esac")...)
	case Sub:
		out = slices.Concat(part(0, "("), texts(")"))
	case Group:
		out = slices.Concat(part(0, "{"), texts("}"))
	}
	return between(" ", append([][]piece{out}, redirs...)...)
}

func modelTo(r Redir) []piece {
	sign := strconv.Itoa(r.Fd) + r.Op
	if r.Op != "<<" {
		return texts(sign + modelSaid(r.Word))
	}
	tag := r.Tag
	if modelLiteral(r) {
		tag = "'" + tag + "'"
	}
	return append(texts(sign+tag), piece{"doc", modelDoc(r) + r.Tag + "\n"})
}

func modelSaid(w []Part) string {
	s := ""
	for _, p := range w {
		x := ""
		switch p.Kind {
		case Lit:
			x = p.Text
			if p.Quoted {
				x = "'" + strings.Join(strings.Split(p.Text, "'"), `'\''`) + "'"
			}
		case Param:
			x = "${" + p.Text + p.Op + modelSaid(p.Word) + "}"
			if p.Op == "len" {
				x = "${#" + p.Text + "}"
			}
		case Cmd:
			x = "$(" + laid(append(end(), modelCommands(p.Body)...)) + ")"
		case Arith:
			x = "$((" + p.Text + "))"
		}
		if p.Kind != Lit && p.Quoted {
			x = `"` + x + `"`
		}
		s += x
	}
	return s
}

// maker makes commands that may be, by chance, and not many more than there is room for.
type maker struct {
	r    *rand.Rand
	room int
}

func (m *maker) chance(n int) bool { return m.r.Intn(n) == 0 }

// commands are some, at least so many, that have so many levels.
func (m *maker) commands(least, left int) (l []Node) {
	for range least + m.r.Intn(2) {
		if left > 0 {
			l = append(l, m.command(left, 0))
		}
	}
	return l
}

// command is one of none of some kinds.
func (m *maker) command(left int, not ...int) Node {
	m.room--
	if left < 2 || m.room < 0 {
		return m.leaf()
	}
	kind := 1 + m.r.Intn(Group)
	if slices.Contains(not, kind) || m.chance(3) {
		kind = Simple
	}
	n := Node{Kind: kind}
	x := rules[kind]
	for range min(x.most, x.least+m.r.Intn(2)) {
		switch {
		case kind == Func:
			body := m.command(left-1, Simple, Pipe, And, Or, Not, Func)
			if body.Kind == Simple {
				body = node(Group, list(body))
				if gather(list(body)).deep > left-1 {
					body = node(Group, list(m.leaf()))
				}
			}
			n.Lists = append(n.Lists, list(body))
		case x.not == nil:
			n.Lists = append(n.Lists, m.commands(1, left-1))
		case len(n.Lists) == 0 && (kind == And || kind == Or):
			n.Lists = append(n.Lists, list(m.command(left-1)))
		default:
			n.Lists = append(n.Lists, list(m.command(left-1, x.not...)))
		}
	}
	if kind == Func && left < 3 {
		return m.leaf()
	}
	return m.filled(n, left)
}

// filled is a command with what its kind may have beside its lists.
func (m *maker) filled(n Node, left int) Node {
	switch n.Kind {
	case Simple:
		for m.chance(3) {
			n.Assigns = append(n.Assigns, Assign{m.name(), m.word(0, left-1)})
		}
		for m.r.Intn(3) > 0 {
			n.Words = append(n.Words, m.word(1, left-1))
		}
		if !modelNode(n) {
			n.Words = append([][]Part{{bare("a")}}, n.Words...)
		}
	case For, Func:
		n.Name = m.name()
		for n.Kind == For && m.chance(2) {
			n.Words = append(n.Words, m.word(1, left-1))
		}
		if n.Kind == Func && modelReserved.MatchString(n.Name) {
			n.Name += "_"
		}
	case Case:
		n.Words = [][]Part{m.word(1, left-1)}
		for m.chance(2) {
			a := Arm{Words: [][]Part{m.word(1, left-1)}, Body: m.commands(0, left-1)}
			for m.chance(2) {
				a.Words = append(a.Words, m.word(1, left-1))
			}
			n.Arms = append(n.Arms, a)
		}
	}
	for strings.Contains(rules[n.Kind].fields, "R") && m.chance(3) {
		n.Redirs = append(n.Redirs, m.redir(left-1))
	}
	return n
}

// leaf is a command of one level.
func (m *maker) leaf() Node {
	if m.chance(2) {
		return Node{Kind: Simple, Assigns: []Assign{{Name: m.name()}}}
	}
	return with(Node{Kind: Simple}, doc(m.r.Intn(10), m.name()))
}

func (m *maker) name() string {
	return pick(m.r, 1, "a", "b1", "_", "X", "if", "done", "E", "in", "aB_9")
}

func (m *maker) word(least, left int) (w []Part) {
	for len(w) < least || m.chance(2) {
		if next := append(w, m.part(left)); modelWord(next) {
			w = next
		}
	}
	return w
}

func (m *maker) part(left int) Part {
	m.room--
	kind, q := 1+m.r.Intn(4), m.chance(2)
	if kind == Cmd && (left < 2 || m.room < 0) {
		kind = Lit
	}
	switch kind {
	case Lit:
		if q {
			return quoted(pick(m.r, m.r.Intn(4), "a", "b c", "'", "\n", "\\", "$", "`", "\"", "\xff", "#", "}", ")"))
		}
		return bare(pick(m.r, 1+m.r.Intn(3), "a", "/", "%", "=", "if", "~", "*", "!", "1"))
	case Cmd:
		return Part{Kind: Cmd, Quoted: q, Body: m.commands(0, left-1)}
	case Arith:
		return Part{Kind: Arith, Quoted: q, Text: pick(m.r, m.r.Intn(3), "1", " ", "+", "(a)", "$x", "((2))", "\n", "<<")}
	}
	p := Part{Kind: Param, Quoted: q, Text: pick(m.r, 1, "x", "y_1", "if", "0", "1", "9999", "@", "*", "#", "?", "-", "$", "!")}
	switch m.r.Intn(3) {
	case 1:
		p.Op = "len"
	case 2:
		p.Op = pick(m.r, 1, "-", ":-", "=", ":=", "?", ":?", "+", ":+", "#", "##", "%", "%%")
		if left > 1 && m.room > 0 {
			p.Word = m.word(0, left-1)
		}
	}
	if !modelPart(p) {
		p.Op, p.Word = "", nil
	}
	return p
}

func (m *maker) redir(left int) Redir {
	if m.chance(2) {
		return to(m.r.Intn(10), pick(m.r, 1, "<", ">", ">>", "<>", ">|", "<&", ">&"), m.word(1, left)...)
	}
	x := doc(m.r.Intn(10), m.name())
	for m.r.Intn(3) > 0 {
		p := m.part(1)
		p.Quoted, p.Op, p.Word, p.Body = true, "", nil, nil
		p.Text = strings.ReplaceAll(p.Text, "\n", " ")
		if p.Kind == Lit && m.chance(2) {
			p.Text += "\n" + pick(m.r, m.r.Intn(2), "E\n", "if\n")
		}
		if next := append(x.Word, p); modelWord(next) {
			x.Word = next
		}
	}
	if last := len(x.Word) - 1; last >= 0 && x.Word[last].Kind == Lit {
		x.Word[last].Text += "\n"
	} else if last >= 0 {
		x.Word = append(x.Word, quoted("\n"))
	}
	if !modelRedir(x) {
		x.Tag = "Z0"
	}
	return x
}

func checkRight(t *testing.T, l []Node, deep int) bool {
	t.Helper()
	want := modelRight(l, deep)
	if got := Right(l, deep); got != want {
		t.Errorf("Right at %d of %+v: %v, want %v", deep, l, got, want)
	}
	return want
}

func checkShow(t *testing.T, want string, l ...Node) {
	t.Helper()
	if deep := gather(l).deep; !Right(l, deep) || deep > 0 && Right(l, deep-1) {
		t.Errorf("Right of %q: %v %v, want that they may be, %d levels deep", want, Right(l, deep), Right(l, deep-1), deep)
	}
	if s := Show(l); s != want {
		t.Errorf("Show: %s, want %s", short(s), short(want))
	}
	if s := modelShow(l); s != want {
		t.Errorf("the model's Show: %s, want %s", short(s), short(want))
	}
}

func checkTexts(t *testing.T, s string) {
	t.Helper()
	for _, x := range []struct {
		call      string
		got, want bool
	}{
		{"Name", Name(s), modelName.MatchString(s)},
		{"Number", Number(s), modelNumber.MatchString(s)},
		{"Special", Special(s), modelSpecial.MatchString(s)},
		{"Reserved", Reserved(s), modelReserved.MatchString(s)},
		{"Op", Op(s), modelOp.MatchString(s)},
		{"Sum", Sum(s), modelSum(s)},
	} {
		if x.got != x.want {
			t.Errorf("%s of %s: %v, want %v", x.call, short(s), x.got, x.want)
		}
	}
}

// P14.2: the kinds have the chapter's numbers.
func TestKinds(t *testing.T) {
	for i, kind := range []int{Lit, Param, Cmd, Arith} {
		if kind != i+1 {
			t.Errorf("the part's kind %d is %d", i+1, kind)
		}
	}
	for i, kind := range []int{Simple, Pipe, And, Or, Not, If, While, Until, For, Case, Func, Sub, Group} {
		if kind != i+1 {
			t.Errorf("the command's kind %d is %d", i+1, kind)
		}
	}
}

// P14.1: Bare.
func TestBare(t *testing.T) {
	count := 0
	for c := range 256 {
		if got, want := Bare(byte(c)), modelBare.MatchString(string([]byte{byte(c)})); got != want {
			t.Errorf("Bare of %q: %v, want %v", byte(c), got, want)
		}
		if Bare(byte(c)) {
			count++
		}
	}
	if want := 26 + 26 + 10 + len("_./,+-:@*?[]!^=~%"); count != want {
		t.Errorf("%d bytes are bare, want %d", count, want)
	}
}

// P14.1: Name, Number, Special, Reserved, Op and Sum of known texts.
func TestTexts(t *testing.T) {
	for _, x := range []struct {
		call string
		is   func(string) bool
		yes  []string
		no   []string
	}{
		{"Name", Name, []string{"a", "Z", "_", "a1", "_0", "aB_9", "if", repeat("x", 5000)}, []string{"", "1", "1a", "a-b", "a ", " a", "a=", "é", "a\x00", "a.b", "?", "a\n"}},
		{"Number", Number, []string{"0", "1", "9", "10", "99", "100", "1000", "9999"}, []string{"", "00", "01", "0123", "10000", "12345", "1a", "-1", "+1", " 1", "1 ", "1\n", "\xb9", repeat("1", 5000)}},
		{"Special", Special, []string{"@", "*", "#", "?", "-", "$", "!"}, []string{"", "@@", "a", "0", "%", "+", " ", "$$", "!\n"}},
		{"Reserved", Reserved, []string{"if", "then", "elif", "else", "fi", "while", "until", "do", "done", "for", "in", "case", "esac", "!", "{", "}"}, []string{"", "If", "i", "iff", "(", ")", "function", "select", "time", "[[", "if ", "{}", "!!", ";;"}},
		{"Op", Op, []string{"-", ":-", "=", ":=", "?", ":?", "+", ":+", "#", "##", "%", "%%"}, []string{"", ":", "len", "::-", "--", ":#", ":%", "###", "%%%", "==", "-:", " -", "/", "^"}},
		{"Sum", Sum, []string{"", " ", "1", "a+1", "(1)", "()", "((a)*(b))", "x=1?2:3", "$x", "~a^b|c&d", "1\n+\t2", "a<<=1", "!a", "%", ")("[1:] + ")", "0x1F", repeat("(", 9000) + repeat(")", 9000)}, []string{"(", ")", ")(", "())", "(()", "1)+(2", "1,2", "a;b", "\"1\"", "'", "a.b", "#", "{", "[1]", "\\", "`", "\x00", "\r", "\v", "é", "@", "1\\\n", repeat("(", 9001) + repeat(")", 9000)}},
	} {
		for _, s := range x.yes {
			if !x.is(s) {
				t.Errorf("%s of %s: false", x.call, short(s))
			}
			checkTexts(t, s)
		}
		for _, s := range x.no {
			if x.is(s) {
				t.Errorf("%s of %s: true", x.call, short(s))
			}
			checkTexts(t, s)
		}
	}
}

// P14.1: the same of every byte alone and among others, of all short texts of the bytes that matter, and of texts by chance.
func TestTextsModel(t *testing.T) {
	for c := range 256 {
		s := string([]byte{byte(c)})
		for _, x := range []string{s, s + s, "a" + s, s + "a", "a" + s + "a", "1" + s, s + "1", "(" + s + ")", ":" + s, s + ":"} {
			checkTexts(t, x)
		}
	}
	all := []string{""}
	for range 6 {
		var longer []string
		for _, s := range all {
			checkTexts(t, s)
			for _, c := range "a01_()-:#" {
				longer = append(longer, s+string(c))
			}
		}
		all = longer
		if len(all) > 100000 {
			break
		}
	}
	r := rand.New(rand.NewSource(1401))
	for range 20000 {
		checkTexts(t, pick(r, r.Intn(12), "(", ")", "(", ")", "1", "a", "+", " ", "$"))
		checkTexts(t, pick(r, r.Intn(6), "a", "_", "0", "9", "%", ":", "=", "+", "?", "if", "do", "ne", "!", "\xff"))
	}
}

// P14.1: Plain.
func TestPlain(t *testing.T) {
	for _, x := range []struct {
		w      []Part
		s      string
		quoted bool
		ok     bool
	}{
		{nil, "", false, true},
		{word(), "", false, true},
		{word(bare("a")), "a", false, true},
		{word(quoted("a b")), "a b", true, true},
		{word(quoted("")), "", true, true},
		{word(bare("a"), quoted(""), bare("b")), "ab", true, true},
		{word(quoted("\xff\n"), bare("x")), "\xff\nx", true, true},
		{word(param("x")), "", false, false},
		{word(quoted("a"), param("x")), "", false, false},
		{word(param("x"), quoted("a")), "", false, false},
		{word(bare("a"), sum("")), "", false, false},
		{word(quoted("a"), cmd()), "", false, false},
		{word(bare("a"), inQuotes(param("x")), quoted("b")), "", false, false},
	} {
		if s, q, ok := Plain(x.w); s != x.s || q != x.quoted || ok != x.ok {
			t.Errorf("Plain of %+v: %q %v %v, want %q %v %v", x.w, s, q, ok, x.s, x.quoted, x.ok)
		}
	}
	m := &maker{rand.New(rand.NewSource(1402)), math.MaxInt}
	plain := 0
	for range 20000 {
		w := m.word(0, 3)
		s, q, ok := Plain(w)
		want, wantQuoted, wantOk := "", false, true
		for _, p := range w {
			want, wantQuoted, wantOk = want+p.Text, wantQuoted || p.Quoted, wantOk && p.Kind == Lit
		}
		if !wantOk {
			want, wantQuoted = "", false
		} else {
			plain++
		}
		if s != want || q != wantQuoted || ok != wantOk {
			t.Errorf("Plain of %+v: %q %v %v, want %q %v %v", w, s, q, ok, want, wantQuoted, wantOk)
		}
	}
	if plain < 2000 || plain > 18000 {
		t.Error(plain, "words of bytes alone")
	}
}

// P14.1: Literal and Doc of known here-documents.
func TestDoc(t *testing.T) {
	q := inQuotes
	for _, x := range []struct {
		r       Redir
		literal bool
		want    string
	}{
		{doc(0, "E"), true, ""},
		{doc(0, "E", quoted("a\n")), true, "a\n"},
		{doc(0, "E", quoted("$x `a` \\ \"'\n\n")), true, "$x `a` \\ \"'\n\n"},
		{doc(0, "E", q(param("x")), quoted("\n")), false, "${x}\n"},
		{doc(0, "E", quoted("$x `a` \\ \"'\n"), q(param("x")), quoted("\\\n")), false, "\\$x \\`a\\` \\\\ \"'\n${x}\\\\\n"},
		{doc(9, "if", q(param("#")), q(param("0")), q(sum("1 + (2)")), q(sum("")), quoted("E\n")), false, "${#}${0}$((1 + (2)))$(())E\n"},
		{doc(1, "E", quoted("\xff\x01"), q(param("a_1")), quoted("\nEE\n E\nE \n")), false, "\xff\x01${a_1}\nEE\n E\nE \n"},
	} {
		l := list(with(Node{Kind: Simple}, x.r))
		if !Right(l, 2) {
			t.Errorf("%+v may not be", x.r)
		}
		if got := x.r.Literal(); got != x.literal {
			t.Errorf("Literal of %+v: %v", x.r, got)
		}
		if got := x.r.Doc(); got != x.want {
			t.Errorf("Doc of %+v: %q, want %q", x.r, got, x.want)
		}
	}
}

// P14.1: Literal and Doc of every byte, and of here-documents by chance.
func TestDocModel(t *testing.T) {
	check := func(x Redir) {
		if got, want := x.Literal(), modelLiteral(x); got != want {
			t.Errorf("Literal of %+v: %v, want %v", x, got, want)
		}
		if got, want := x.Doc(), modelDoc(x); got != want {
			t.Errorf("Doc of %+v: %q, want %q", x, got, want)
		}
	}
	for c := 1; c < 256; c++ {
		s := string([]byte{byte(c)})
		check(doc(0, "E", quoted(s+"\n")))
		check(doc(0, "E", quoted(s+s), inQuotes(param("x")), quoted(s+"a"+s+"\n")))
	}
	m := &maker{rand.New(rand.NewSource(1403)), math.MaxInt}
	told := 0
	for range 10000 {
		if x := m.redir(1); x.Op == "<<" {
			check(x)
			if !x.Literal() {
				told++
			}
		}
	}
	if told < 1000 {
		t.Error(told, "here-documents that aren't literal")
	}
}

// P14.2: what the chapter says of parts, one by one.
func TestRightParts(t *testing.T) {
	q := inQuotes
	for _, x := range []struct {
		w    []Part
		want bool
	}{
		{word(bare("a")), true}, {word(bare("")), false}, {word(bare("a b")), false}, {word(bare("{")), false}, {word(bare("é")), false},
		{word(quoted("")), true}, {word(quoted("a b\n\xff'\"")), true}, {word(quoted("\x00")), false}, {word(quoted("ab\x00c")), false},
		{word(bare("a"), bare("b")), false}, {word(quoted("a"), quoted("b")), false}, {word(bare("a"), quoted("b"), bare("c")), true},
		{word(quoted(""), bare("a")), true}, {word(bare("a"), quoted("")), true}, {word(quoted(""), param("x")), true}, {word(quoted(""), q(param("x"))), false},
		{word(quoted(""), q(sum("1"))), false}, {word(quoted(""), q(cmd())), false}, {word(quoted(""), cmd()), true}, {word(q(param("x")), quoted("")), true},
		{word(quoted("a"), q(param("x"))), true}, {word(quoted(""), bare("a"), q(param("x"))), true}, {word(param("x"), param("x")), true}, {word(q(sum("1")), q(sum("1"))), true},
		{word(bare("a"), quoted(""), bare("b"), quoted(""), q(cmd())), false},
		{word(param("")), false}, {word(param("x-")), false}, {word(param("00")), false}, {word(param("12345")), false}, {word(param("##")), false}, {word(param("%")), false}, {word(param("9999")), true}, {word(param("!")), true},
		{word(op("x", "len")), true}, {word(op("10", "len")), true}, {word(op("0", "len")), true}, {word(op("#", "len")), false}, {word(op("@", "len")), false}, {word(op("x", "len", bare("a"))), false}, {word(op("x", "", bare("a"))), false},
		{word(op("x", ":")), false}, {word(op("x", "/", bare("a"))), false}, {word(op("#", "-")), false}, {word(op("#", "##", bare("a"))), false}, {word(op("?", "?", bare("a"))), true}, {word(op("@", ":-", quoted("}"))), true}, {word(op("-", "-")), true}, {word(op("12345", "-")), false},
		{word(op("x", "%", bare("%"))), false}, {word(op("x", "%", bare("%a"))), false}, {word(op("x", "%", quoted("%"))), true}, {word(op("x", "%", bare("a%"))), true}, {word(op("x", "%%", bare("%"))), true}, {word(op("x", "#", bare("%"))), true}, {word(op("x", "%", param("y"), bare("%"))), true}, {word(op("x", "%", quoted(""), bare("%"))), true}, {word(op("x", "%")), true},
		{word(op("x", "-", bare("a"), bare("b"))), false}, {word(op("x", "-", op("y", ":", bare("a")))), false}, {word(op("x", "-", quoted("a"), q(op("y", "+", bare("b"))))), true},
		{word(sum("1)")), false}, {word(sum("1")), true}, {word(sum("1\n2")), true}, {word(sum("#")), false},
		{word(cmd(of("a"))), true}, {word(cmd(of("a"), of("if"))), false}, {word(cmd(Node{})), false},
		{word(Part{}), false}, {word(Part{Kind: 5, Text: "a"}), false}, {word(Part{Kind: -1}), false},
		{word(Part{Kind: Lit, Text: "a", Op: "-"}), false}, {word(Part{Kind: Lit, Text: "a", Word: word(bare("b"))}), false}, {word(Part{Kind: Lit, Text: "a", Body: list(of("b"))}), false},
		{word(Part{Kind: Param, Text: "a", Body: list(of("b"))}), false}, {word(Part{Kind: Param, Text: "a", Op: "-", Body: list(of("b"))}), false},
		{word(Part{Kind: Cmd, Text: "a"}), false}, {word(Part{Kind: Cmd, Op: "-"}), false}, {word(Part{Kind: Cmd, Word: word(bare("b"))}), false},
		{word(Part{Kind: Arith, Op: "-"}), false}, {word(Part{Kind: Arith, Word: word(bare("b"))}), false}, {word(Part{Kind: Arith, Body: list(of("b"))}), false},
		{word(Part{Kind: Lit, Text: "a", Word: word(), Body: list()}), true},
	} {
		places := []Node{
			{Kind: Simple, Words: [][]Part{word(bare("a")), x.w}},
			{Kind: Simple, Assigns: []Assign{{"a", x.w}}},
			with(Node{Kind: Simple}, to(1, ">", x.w...)),
			loop("a", [][]Part{word(bare("a")), x.w}, of("a")),
			choice(x.w),
			choice(word(bare("a")), Arm{Words: [][]Part{word(bare("a")), x.w}}),
			saying(op("x", "-", x.w...)),
		}
		for i, n := range places {
			if got := Right(list(n), 9); got != x.want {
				t.Errorf("Right of %+v at the place %d: %v", x.w, i, got)
			}
			checkRight(t, list(of("a"), n), 9)
		}
	}
}

// P14.2: what the chapter says of commands, one by one.
func TestRightCommands(t *testing.T) {
	a, b := of("a"), of("b")
	sub := one(Sub, a)
	for i, n := range []Node{
		a, of("a", "if"), of("=a"), of("1=a"), of("a", "b=c"), of("thenx"), of("[", "!", "]"),
		saying(bare("if"), quoted("")), saying(quoted("if")), saying(quoted("a=b")), saying(quoted(""), bare("a=b")), saying(quoted("a"), bare("=b")), saying(param("a"), bare("=b")), saying(bare("a"), quoted("=b")),
		{Kind: Simple, Assigns: []Assign{{Name: "if"}}}, {Kind: Simple, Assigns: []Assign{{Name: "_", Word: word(bare("x=y"))}}}, with(Node{Kind: Simple}, to(0, "<", bare("a"))),
		one(Pipe, a, b, a, sub, one(If, a, b)), one(Pipe, function("f", sub), a),
		one(And, a, b), one(And, one(And, a, b), b), one(Or, one(And, a, b), one(Not, b)), one(And, one(Pipe, a, b), one(Pipe, a, b)), one(And, one(Or, a, b), function("f", sub)),
		one(Not, a), one(Not, one(Pipe, a, b)), one(Not, sub), one(Not, function("f", sub)),
		node(If, list(a), list(b)), node(If, list(a, b), list(b, a), list(a, a, a)), with(node(If, list(a), list(b)), to(1, ">", bare("a"))),
		node(While, list(a, a), list(b)), node(Until, list(a), list(b, b)), with(node(Until, list(a), list(b)), to(1, ">", bare("a")), doc(0, "E")),
		node(Sub, list(a, b)), node(Group, list(one(And, a, b))), with(one(Sub, a), to(9, ">&", bare("1"))),
		loop("i", nil, a), loop("in", [][]Part{word(bare("do")), word(quoted(""))}, a, b), with(loop("i", nil, a), to(1, ">", bare("a"))),
		choice(word(bare("in"))), choice(word(quoted("")), Arm{Words: [][]Part{word(bare("esac"))}}, Arm{Words: [][]Part{word(bare("a")), word(param("x"))}, Body: list(a, b)}), with(choice(word(bare("a"))), to(1, ">", bare("a"))),
		function("f", sub), function("_", one(Group, a)), function("f", node(If, list(a), list(b))), function("f", node(While, list(a), list(b))), function("f", node(Until, list(a), list(b))), function("f", loop("i", nil, a)), function("f", choice(word(bare("a")))), function("f", with(sub, to(1, ">", bare("a")))),
	} {
		if !Right(list(n), 9) || !modelRight(list(n), 9) {
			t.Errorf("%d: %+v may be, the program says %v", i, n, Right(list(n), 9))
		}
	}
	for i, n := range []Node{
		{}, {Kind: -1}, {Kind: 14}, {Kind: math.MaxInt}, {Kind: Simple}, of(""), of("a", ""), of("a b"), {Kind: Simple, Words: [][]Part{{}}}, {Kind: Simple, Words: [][]Part{word(bare("a")), nil}},
		of("a=b"), of("a="), of("_1=x=y"), of("if"), of("!"), of("done"), of("in"), {Kind: Simple, Assigns: []Assign{{Name: "a"}}, Words: [][]Part{word(bare("esac"))}}, saying(bare("a="), quoted("b")), saying(bare("a=b"), param("x")),
		{Kind: Simple, Assigns: []Assign{{Name: ""}}}, {Kind: Simple, Assigns: []Assign{{Name: "1"}}}, {Kind: Simple, Assigns: []Assign{{Name: "a"}, {Name: "a-b"}}}, {Kind: Simple, Assigns: []Assign{{Name: "a", Word: word(bare(""))}}},
		{Kind: Simple, Words: a.Words, Name: "a"}, {Kind: Simple, Words: a.Words, Lists: [][]Node{list(a)}}, {Kind: Simple, Words: a.Words, Lists: [][]Node{{}}}, {Kind: Simple, Words: a.Words, Arms: []Arm{{Words: a.Words}}}, {Kind: Simple, Words: a.Words, Arms: []Arm{{}}},
		{Kind: Pipe}, one(Pipe, a), one(Pipe, a, one(Pipe, a, b)), one(Pipe, one(Pipe, a, b), a), one(Pipe, one(Not, a), b), one(Pipe, a, b, one(And, a, b)), one(Pipe, one(Or, a, b), b), node(Pipe, list(a), list(a, b)), node(Pipe, list(a), list()), with(one(Pipe, a, b), to(1, ">", bare("a"))),
		{Kind: And}, one(And, a), one(And, a, b, a), one(And, a, one(And, a, b)), one(And, a, one(Or, a, b)), one(Or, a, one(And, a, b)), one(Or, a, one(Or, a, b)), node(And, list(a, b), list(a)), node(Or, list(a), list(a, b)), node(Or, list(), list(a)), with(one(Or, a, b), to(1, ">", bare("a"))),
		{Kind: Not}, one(Not, a, b), one(Not, one(Not, a)), one(Not, one(And, a, b)), one(Not, one(Or, a, b)), node(Not, list(a, b)), node(Not, list()), with(one(Not, a), to(1, ">", bare("a"))),
		one(If, a), {Kind: If}, one(If, a, b, a, b), node(If, list(a), list()), node(If, list(), list(a)), node(If, list(a), list(b), list()), {Kind: If, Lists: one(If, a, b).Lists, Name: "a"}, {Kind: If, Lists: one(If, a, b).Lists, Words: a.Words},
		one(While, a), one(While, a, b, a), one(Until, a), one(Until, a, b, a), node(Until, list(a), list()), {Kind: While}, {Kind: While, Lists: one(If, a, b).Lists, Assigns: []Assign{{Name: "a"}}},
		{Kind: Sub}, {Kind: Group}, one(Sub, a, b), one(Group, a, b), node(Sub, list()), node(Group, list()), {Kind: Group, Lists: sub.Lists, Arms: []Arm{{Words: a.Words}}}, {Kind: Sub, Lists: sub.Lists, Name: "a"},
		loop("", nil, a), loop("1", nil, a), loop("a-b", nil, a), loop("a", [][]Part{{}}, a), loop("a", nil), {Kind: For, Name: "a"}, {Kind: For, Name: "a", Lists: one(If, a, b).Lists}, {Kind: For, Name: "a", Lists: sub.Lists, Assigns: []Assign{{Name: "a"}}}, {Kind: For, Name: "a", Lists: sub.Lists, Arms: []Arm{{Words: a.Words}}},
		{Kind: Case}, choice(nil), {Kind: Case, Words: of("a", "b").Words}, choice(word(bare("a")), Arm{}), choice(word(bare("a")), Arm{Words: [][]Part{{}}}), choice(word(bare("a")), Arm{Words: [][]Part{word(bare("a")), nil}}), choice(word(bare("a")), Arm{Words: a.Words, Body: list(Node{})}), {Kind: Case, Words: a.Words, Lists: sub.Lists}, {Kind: Case, Words: a.Words, Name: "a"}, {Kind: Case, Words: a.Words, Assigns: []Assign{{Name: "a"}}},
		function("", sub), function("1", sub), function("if", sub), function("esac", sub), function("!", sub), function("f", a), function("f", one(Pipe, a, b)), function("f", one(And, a, b)), function("f", one(Or, a, b)), function("f", one(Not, a)), function("f", function("g", sub)), function("f", Node{Kind: 14}), function("f", Node{}), node(Func, list(sub)), {Kind: Func, Name: "f"}, {Kind: Func, Name: "f", Lists: [][]Node{{sub, sub}}}, {Kind: Func, Name: "f", Lists: [][]Node{{}}}, {Kind: Func, Name: "f", Lists: [][]Node{{sub}, {sub}}}, {Kind: Func, Name: "f", Lists: [][]Node{{sub}}, Words: a.Words}, with(function("f", sub), to(1, ">", bare("a"))),
	} {
		if Right(list(n), 9) || modelRight(list(n), 9) || Right(list(a, n), 9) || Right(list(n, a), 9) {
			t.Errorf("%d: %+v may not be, the program says %v", i, n, Right(list(n), 9))
		}
		for k, outer := range []Node{one(Sub, n), node(If, list(a), list(b), list(a, n)), loop("i", nil, n), choice(word(bare("a")), Arm{Words: a.Words, Body: list(n)}), saying(cmd(n)), one(And, n, a)} {
			if Right(list(outer), 9) {
				t.Errorf("%d: %+v may not be within the command %d", i, n, k)
			}
		}
	}
}

// P14.2: what the chapter says of redirections, one by one.
func TestRightRedirs(t *testing.T) {
	q := inQuotes
	for _, x := range []struct {
		r    Redir
		want bool
	}{
		{to(0, "<", bare("a")), true}, {to(9, ">", bare("a")), true}, {to(1, ">>", quoted("")), true}, {to(2, "<>", param("x")), true}, {to(3, ">|", cmd()), true}, {to(4, "<&", bare("-")), true}, {to(5, ">&", sum("1")), true},
		{to(-1, "<", bare("a")), false}, {to(10, "<", bare("a")), false}, {to(math.MaxInt, "<", bare("a")), false}, {to(0, "<"), false}, {to(0, "", bare("a")), false}, {to(0, "&>", bare("a")), false}, {to(0, "<<-", bare("a")), false}, {to(0, "<<<", bare("a")), false}, {to(0, ">", bare("")), false}, {to(0, ">", bare("a"), bare("b")), false},
		{Redir{Op: ">", Tag: "E", Word: word(bare("a"))}, false}, {Redir{Op: "<", Tag: " ", Word: word(bare("a"))}, false},
		{doc(0, "E"), true}, {doc(9, "if"), true}, {doc(10, "E"), false}, {doc(-1, "E"), false}, {doc(0, ""), false}, {doc(0, "1"), false}, {doc(0, "E F"), false}, {doc(0, "E-"), false},
		{doc(0, "E", quoted("a\n")), true}, {doc(0, "E", bare("a")), false}, {doc(0, "E", quoted("a")), false}, {doc(0, "E", quoted("")), false}, {doc(0, "E", quoted("a\nb")), false}, {doc(0, "E", quoted("\n")), true}, {doc(0, "E", quoted("\x00\n")), false}, {doc(0, "E", quoted("E\n\n\n")), false},
		{doc(0, "E", quoted("E\n")), false}, {doc(0, "E", quoted("a\nE\nb\n")), false}, {doc(0, "E", quoted("a\nE\n")), false}, {doc(0, "E", quoted("EE\n E\nE \n\"E\"\n")), true}, {doc(0, "EE", quoted("E\nE\n")), true},
		{doc(0, "E", q(param("x")), quoted("\n")), true}, {doc(0, "E", q(param("x"))), false}, {doc(0, "E", param("x"), quoted("\n")), false}, {doc(0, "E", quoted("a"), q(param("x")), bare("b"), quoted("\n")), false},
		{doc(0, "E", quoted("E"), q(param("x")), quoted("\n")), true}, {doc(0, "E", q(param("x")), quoted("E\n")), true}, {doc(0, "E", q(param("x")), quoted("\nE\n")), false}, {doc(0, "E", quoted("E\n"), q(param("x")), quoted("\n")), false}, {doc(0, "x", q(param("x")), quoted("\n")), true},
		{doc(0, "E", q(op("x", "len")), quoted("\n")), false}, {doc(0, "E", q(op("x", "-", bare("a"))), quoted("\n")), false}, {doc(0, "E", q(op("x", "-")), quoted("\n")), false}, {doc(0, "E", q(param("01")), quoted("\n")), false},
		{doc(0, "E", q(sum("1")), quoted("\n")), true}, {doc(0, "E", q(sum("1\n")), quoted("\n")), false}, {doc(0, "E", q(sum("(")), quoted("\n")), false}, {doc(0, "E", q(sum("\t ( ) ")), quoted("\n")), true},
		{doc(0, "E", q(cmd()), quoted("\n")), false}, {doc(0, "E", q(cmd(of("a"))), quoted("\n")), false}, {doc(0, "E", quoted("a"), quoted("\n")), false}, {doc(0, "E", q(Part{}), quoted("\n")), false}, {doc(0, "E", quoted(""), q(param("x")), quoted("\n")), false},
	} {
		a := of("a")
		for i, n := range []Node{with(Node{Kind: Simple}, x.r), with(a, to(1, ">", bare("a")), x.r), with(one(Sub, a), x.r), with(choice(word(bare("a"))), x.r, to(1, ">", bare("a")))} {
			if got := Right(list(n), 9); got != x.want {
				t.Errorf("Right of %+v at the place %d: %v", x.r, i, got)
			}
			checkRight(t, list(n), 9)
		}
	}
}

// P14.2: every kind with each of a command's fields, or without it, and with so many lists.
func TestRightFields(t *testing.T) {
	a := of("a")
	yes := 0
	for kind := -1; kind <= 15; kind++ {
		for has := range 32 {
			for lists := range 5 {
				for _, name := range []string{"f", "if", "1"} {
					n := Node{Kind: kind}
					if has&1 != 0 {
						n.Name = name
					}
					if has&2 != 0 {
						n.Assigns = []Assign{{Name: "a"}}
					}
					if has&4 != 0 {
						n.Words = [][]Part{word(bare("a"))}
					}
					if has&8 != 0 {
						n.Redirs = []Redir{doc(0, "E")}
					}
					if has&16 != 0 {
						n.Arms = []Arm{{Words: [][]Part{word(quoted("a"))}}}
					}
					for range lists {
						n.Lists = append(n.Lists, list(one(Group, a)))
					}
					if checkRight(t, list(n), 4) {
						yes++
					}
				}
			}
		}
	}
	if yes < 90 {
		t.Error(yes, "of them may be")
	}
}

// P14.2: every kind of one or two lists of one command of every kind, of none and of two.
func TestRightKindsWithin(t *testing.T) {
	a := of("a")
	sub := one(Sub, a)
	each := [][]Node{{}, {a, a}, {sub, sub}, {{}}, {{Kind: 14}}, {a}, {one(Pipe, a, a)}, {one(And, a, a)}, {one(Or, a, a)}, {one(Not, a)}, {one(If, a, a)}, {one(While, a, a)}, {one(Until, a, a)}, {loop("a", nil, a)}, {choice(word(bare("a")))}, {function("f", sub)}, {sub}, {one(Group, a)}}
	yes, no := 0, 0
	for kind := range Group + 2 {
		n := Node{Kind: kind}
		switch kind {
		case For, Func:
			n.Name = "a"
		case Case:
			n.Words = [][]Part{word(bare("a"))}
		}
		for _, x := range each {
			for _, y := range append(each, nil) {
				n.Lists = [][]Node{x, y}
				if len(y) == 0 {
					n.Lists = [][]Node{x}
				}
				if checkRight(t, list(n), 9) {
					yes++
				} else {
					no++
				}
				n.Lists = [][]Node{list(a), x, y}
				checkRight(t, list(n), 9)
			}
		}
	}
	if yes < 1000 || no < 1000 {
		t.Error(yes, "may be,", no, "may not")
	}
}

// P14.2: every kind of part with some texts, signs, words and commands, quoted or not.
func TestRightPartsModel(t *testing.T) {
	yes := 0
	for kind := range 6 {
		for _, text := range []string{"", "a", "a b", "1", "01", "12345", "@", "#", "$", "a%", "%", "(", "a\x00", "{", "1\n", "é", "if", "a=b"} {
			for _, sign := range []string{"", "len", "-", ":-", "=", ":=", "?", ":?", "+", ":+", "#", "##", "%", "%%", ":", "/", "Len", "%%%"} {
				for _, w := range [][]Part{nil, word(bare("%")), word(quoted("%")), word(param("x"), bare("%a")), word(bare(""))} {
					for _, body := range [][]Node{nil, list(of("a")), list(Node{})} {
						p := Part{Kind: kind, Text: text, Op: sign, Word: w, Body: body}
						for _, l := range [][]Part{word(p), word(inQuotes(p))} {
							if checkRight(t, list(saying(l...)), 3) {
								yes++
							}
							checkRight(t, list(saying(quoted("-"), p)), 3)
						}
					}
				}
			}
		}
	}
	if yes < 500 {
		t.Error(yes, "of them may be")
	}
}

// P14.2: all words of up to three parts of some, as a first word and elsewhere.
func TestRightWordsModel(t *testing.T) {
	each := word(bare("a"), bare("if"), bare("a=b"), bare("="), quoted(""), quoted("b"), quoted("if"), param("x"), inQuotes(param("x")), sum("1"), inQuotes(sum("1")), cmd(), inQuotes(cmd()), bare(""))
	for _, a := range each {
		checkRight(t, list(saying(a)), 2)
		for _, b := range each {
			checkRight(t, list(saying(a, b)), 2)
			for _, c := range each {
				checkRight(t, list(saying(a, b, c)), 2)
				checkRight(t, list(Node{Kind: Simple, Words: [][]Part{word(inQuotes(param("x"))), word(a, b, c)}}), 2)
				checkRight(t, list(with(Node{Kind: Simple}, to(1, ">", a, b, c))), 2)
			}
		}
	}
}

// P14.2: every redirection of some numbers, signs, tags and words.
func TestRightRedirsModel(t *testing.T) {
	q := inQuotes
	words := [][]Part{nil, word(bare("a")), word(quoted("a\n")), word(quoted("E\n")), word(quoted("\nE")), word(quoted("")), word(q(param("x"))), word(q(param("x")), quoted("\n")), word(param("x"), quoted("\n")), word(q(op("x", "len")), quoted("\n")), word(q(sum("1\n")), quoted("\n")), word(q(sum("1")), quoted("\nE\n")), word(q(cmd()), quoted("\n")), word(quoted("a"), quoted("\n")), word(quoted("E\n"), q(param("E")), quoted("E\n"))}
	for fd := -1; fd <= 10; fd++ {
		for _, sign := range []string{"", "<", ">", ">>", "<>", ">|", "<&", ">&", "<<", "<<-", "<<<", "&>", "|", "><"} {
			for _, tag := range []string{"", "E", "if", "1", "E F", "a"} {
				for _, w := range words {
					checkRight(t, list(with(Node{Kind: Simple}, Redir{Fd: fd, Op: sign, Tag: tag, Word: w})), 2)
				}
			}
		}
	}
}

// flat is a command of one level.
func flat() Node { return Node{Kind: Simple, Assigns: []Assign{{Name: "a"}}} }

// nested are commands of so many levels, by one way of being in one another.
func nested(level int, in func(Node) Node, step int) []Node {
	n := flat()
	for ; level > step; level -= step {
		n = in(n)
	}
	for ; level > 1; level-- {
		n = one(Sub, n)
	}
	return list(n)
}

// P14.2: levels, of each way in which commands and parts are in one another, up to 200, and beyond.
func TestRightDeep(t *testing.T) {
	a := of("a").Words
	ways := []struct {
		step int
		in   func(Node) Node
	}{
		{1, func(n Node) Node { return one(Sub, n) }},
		{1, func(n Node) Node { return node(Group, list(n, n)) }},
		{1, func(n Node) Node { return one(If, flat(), n) }},
		{1, func(n Node) Node { return node(While, list(n), list(flat())) }},
		{1, func(n Node) Node { return loop("a", nil, n) }},
		{1, func(n Node) Node { return choice(a[0], Arm{Words: a}, Arm{Words: a, Body: list(n)}) }},
		{2, func(n Node) Node { return one(Not, one(Sub, n)) }},
		{2, func(n Node) Node { return function("f", one(Group, n)) }},
		{2, func(n Node) Node { return one(Pipe, of("a"), one(Sub, n)) }},
		{1, func(n Node) Node { return one(And, n, flat()) }},
		{2, func(n Node) Node { return saying(cmd(n)) }},
		{2, func(n Node) Node { return Node{Kind: Simple, Assigns: []Assign{{"a", word(inQuotes(cmd(n)))}}} }},
		{2, func(n Node) Node { return with(one(Sub, of("a")), to(1, ">", cmd(n))) }},
		{2, func(n Node) Node { return loop("a", [][]Part{a[0], word(cmd(n))}, of("a")) }},
		{2, func(n Node) Node { return choice(a[0], Arm{Words: [][]Part{word(quoted("a"), cmd(n))}}) }},
		{2, func(n Node) Node { return choice(word(cmd(n))) }},
		{3, func(n Node) Node { return saying(op("x", ":-", quoted("a"), cmd(n))) }},
		{4, func(n Node) Node { return saying(op("x", ":-", inQuotes(op("y", "#", cmd(n))))) }},
	}
	for i, x := range ways {
		levels := []int{5, 6, 7, 63, 64, 65, 199, 200}
		for _, level := range levels {
			if i == 1 && level > 12 {
				continue // as many commands again at each level
			}
			l := nested(level, x.in, x.step)
			for _, deep := range []int{level, level + 1, 1000, math.MaxInt} {
				if !Right(l, deep) {
					t.Errorf("way %d: %d levels may not be at %d", i, level, deep)
				}
			}
			for _, deep := range []int{level - 1, level - 4, 1, 0, -1, math.MinInt} {
				if Right(l, deep) {
					t.Errorf("way %d: %d levels may be at %d", i, level, deep)
				}
			}
			if gather(l).deep != level {
				t.Errorf("way %d: %d levels, the test's own are %d", i, level, gather(l).deep)
			}
		}
	}
	for _, deep := range []int{0, -1, math.MinInt, math.MaxInt, 9} {
		if !Right(nil, deep) || !Right(list(), deep) {
			t.Error("no commands may not be at", deep)
		}
	}
	if l := list(Node{Kind: Simple, Redirs: []Redir{doc(0, "E")}}); !Right(l, 1) || Right(l, 0) {
		t.Error("a here-document of nothing")
	}
	if l := list(with(Node{Kind: Simple}, doc(0, "E", quoted("\n")))); !Right(l, 2) || Right(l, 1) {
		t.Error("a here-document's parts")
	}
}

// P1: what is much too deep, or within itself, ends too.
func TestRightEnds(t *testing.T) {
	deep := nested(50000, func(n Node) Node { return one(Sub, n) }, 1)
	parts := word(param("x"))
	for range 50000 {
		parts = word(op("x", "-", parts...))
	}
	round := list(Node{Kind: Sub, Lists: make([][]Node, 1)})
	round[0].Lists[0] = round
	own := word(op("x", "-"))
	own[0].Word = own
	for _, l := range [][]Node{deep, list(saying(parts...)), round, list(saying(own...))} {
		for _, levels := range []int{math.MinInt, 0, 1, 200, math.MaxInt} {
			Right(l, levels)
		}
		if Right(l, 200) {
			t.Error("so deep that nothing is promised, and may be at 200")
		}
	}
	if n := Count(deep); n != 50000 {
		t.Error("Count of what is deep:", n)
	}
	if s := Show(deep); s != repeat("(\n", 49999)+"a=\n"+repeat(")\n", 49999) {
		t.Error("Show of what is deep:", short(s))
	}
}

// spoil changes one thing of some commands, by chance.
func spoil(r *rand.Rand, l []Node) {
	a := gather(l)
	text := pick(r, 1, "", "a", "if", "1", "00", "@", "#", "a b", "%", "E", "a=b", "1\n", "E\n", "\x00", "(", "12345")
	sign := pick(r, 1, "", "len", "-", ":-", "%", "#", "##", "<", "<<", ">", ">&", ":")
	part := Part{Kind: r.Intn(6), Quoted: r.Intn(2) == 0, Text: text}
	flip := func(there bool) bool { return there == (r.Intn(4) == 0) }
	switch r.Intn(8) {
	case 0, 1:
		if len(a.nodes) == 0 {
			return
		}
		n := a.nodes[r.Intn(len(a.nodes))]
		switch r.Intn(7) {
		case 0:
			n.Kind = r.Intn(16)
		case 1:
			n.Name = text
		case 2:
			n.Assigns = append(n.Assigns, Assign{Name: text})
		case 3:
			n.Words = append(n.Words, word(part))
		case 4:
			n.Redirs = append(n.Redirs, to(r.Intn(11), sign, part))
		case 5:
			n.Lists = append(n.Lists, list(of("a")))
			if flip(true) {
				n.Lists = n.Lists[1:]
			}
		case 6:
			n.Arms = append(n.Arms, Arm{Words: [][]Part{word(part)}})
			if flip(false) {
				n.Arms = nil
			}
		}
	case 2, 3:
		if len(a.parts) == 0 {
			return
		}
		p := a.parts[r.Intn(len(a.parts))]
		switch r.Intn(6) {
		case 0:
			p.Kind = r.Intn(6)
		case 1, 2:
			p.Quoted = !p.Quoted
		case 3:
			p.Text = text
		case 4:
			p.Op = sign
		case 5:
			p.Body = append(p.Body, of("a"))
		}
	case 4, 5:
		if len(a.words) == 0 {
			return
		}
		w := a.words[r.Intn(len(a.words))]
		if flip(len(*w) == 0) {
			*w = nil
		} else {
			*w = slices.Insert(*w, r.Intn(len(*w)+1), part)
		}
	case 6:
		if len(a.redirs) == 0 {
			return
		}
		x := a.redirs[r.Intn(len(a.redirs))]
		switch r.Intn(3) {
		case 0:
			x.Fd = r.Intn(13) - 1
		case 1:
			x.Op = sign
		case 2:
			x.Tag = text
		}
	case 7:
		if len(a.lists) == 0 {
			return
		}
		x := a.lists[r.Intn(len(a.lists))]
		if flip(len(*x) > 0) {
			*x = append(*x, of("a"), of("b"))
		} else {
			*x = nil
		}
	}
	if len(a.arms) > 0 && r.Intn(8) == 0 {
		a.arms[r.Intn(len(a.arms))].Words = nil
	}
	if len(a.sets) > 0 && r.Intn(8) == 0 {
		a.sets[r.Intn(len(a.sets))].Name = text
	}
}

// P14.2: commands by chance, that may be, and such of which some things are changed, at all depths near theirs.
func TestRightByChance(t *testing.T) {
	yes, no := 0, 0
	for seed := range 12000 {
		r := rand.New(rand.NewSource(int64(1404 + seed)))
		m := &maker{r, 60}
		l := m.commands(1, 1+r.Intn(9))
		deep := gather(l).deep
		if !modelRight(l, deep) {
			t.Fatalf("the test's own commands may not be: %+v", l)
		}
		for d := -1; d <= deep+1; d++ {
			if Right(l, d) != (d >= deep) {
				t.Errorf("Right at %d of commands of %d levels: %v, of %+v", d, deep, Right(l, d), l)
			}
		}
		for range 1 + r.Intn(3) {
			spoil(r, l)
		}
		deep = gather(l).deep
		for d := deep - 1; d <= deep+1; d++ {
			if checkRight(t, l, d) {
				yes++
			} else {
				no++
			}
		}
		Count(l)
		Show(l)
	}
	if yes < 3000 || no < 10000 {
		t.Error(yes, "may be,", no, "may not")
	}
}

// P14.2: the chapter's example, and the plainest commands.
func TestShowKnown(t *testing.T) {
	a, b, c := of("a"), of("b"), of("c")
	q := inQuotes
	checkShow(t, "echo 'a b' 1>x\n", with(Node{Kind: Simple, Words: [][]Part{word(bare("echo")), word(quoted("a b"))}}, to(1, ">", bare("x"))))
	checkShow(t, "")
	checkShow(t, "a\nb c\n", a, of("b", "c"))
	checkShow(t, "a= b='x y'z a if 0<x 9>|'y'\n", with(Node{Kind: Simple, Assigns: []Assign{{Name: "a"}, {"b", word(quoted("x y"), bare("z"))}}, Words: of("a", "if").Words}, to(0, "<", bare("x")), to(9, ">|", quoted("y"))))
	checkShow(t, "a=\n", Node{Kind: Simple, Assigns: []Assign{{Name: "a"}}})
	checkShow(t, "1>>x 2<>y 3<&- 4>&1\n", with(Node{Kind: Simple}, to(1, ">>", bare("x")), to(2, "<>", bare("y")), to(3, "<&", bare("-")), to(4, ">&", bare("1"))))
	checkShow(t, "a= 1>x\n", with(Node{Kind: Simple, Assigns: []Assign{{Name: "a"}}}, to(1, ">", bare("x"))))
	checkShow(t, "a | b | c\n", one(Pipe, a, b, c))
	checkShow(t, "a && b || ! c\n", one(Or, one(And, a, b), one(Not, c)))
	checkShow(t, "! a | b\n", one(Not, one(Pipe, a, b)))
	checkShow(t, "a | b && c | a\n", one(And, one(Pipe, a, b), one(Pipe, c, a)))
	checkShow(t, "if\na\nb\nthen\nc\nfi\n", node(If, list(a, b), list(c)))
	checkShow(t, "if\na\nthen\nb\nelse\nif\nc\nthen\na\nfi\nfi 1>x 2>y\n", with(node(If, list(a), list(b), list(node(If, list(c), list(a)))), to(1, ">", bare("x")), to(2, ">", bare("y"))))
	checkShow(t, "while\na\nb\ndo\nc\ndone\n", node(While, list(a, b), list(c)))
	checkShow(t, "until\na\ndo\nb\nc\ndone 0<x\n", with(node(Until, list(a), list(b, c)), to(0, "<", bare("x"))))
	checkShow(t, "for i in\ndo\na\ndone\n", loop("i", nil, a))
	checkShow(t, "for in in in 'a b' \"${@}\"\ndo\na\nb\ndone 0<x\n", with(loop("in", [][]Part{word(bare("in")), word(quoted("a b")), word(q(param("@")))}, a, b), to(0, "<", bare("x"))))
	checkShow(t, "case a in\nesac\n", choice(word(bare("a"))))
	checkShow(t, "case ${x}a in\n(a | 'b c' | *)\na\nb\n;;\n([!a-c]?)\n;;\nesac 1>x\n", with(choice(word(param("x"), bare("a")), Arm{Words: [][]Part{word(bare("a")), word(quoted("b c")), word(bare("*"))}, Body: list(a, b)}, Arm{Words: [][]Part{word(bare("[!a-c]?"))}}), to(1, ">", bare("x"))))
	checkShow(t, "f() {\na\n} 1>x\n", function("f", with(one(Group, a), to(1, ">", bare("x")))))
	checkShow(t, "_9() (\na\nb\n)\nf() for i in\ndo\na\ndone\n", function("_9", node(Sub, list(a, b))), function("f", loop("i", nil, a)))
	checkShow(t, "(\n(\na\n) 0<y\n) 1>x\n", with(one(Sub, with(one(Sub, a), to(0, "<", bare("y")))), to(1, ">", bare("x"))))
	checkShow(t, "{\na\n} | (\nb\n)\n", one(Pipe, one(Group, a), one(Sub, b)))
	checkShow(t, "! f() {\na\n} && b\n", one(And, one(Not, function("f", one(Group, a))), b))
}

// P14.2: parts, written.
func TestShowParts(t *testing.T) {
	q := inQuotes
	for _, x := range []struct {
		w    []Part
		want string
	}{
		{word(bare("a")), "a"}, {word(bare("~/*[!a]?%=")), "~/*[!a]?%="}, {word(quoted("")), "''"}, {word(quoted("a b")), "'a b'"}, {word(quoted("it's")), `'it'\''s'`}, {word(quoted("'")), `''\'''`}, {word(quoted("''")), `''\'''\'''`}, {word(quoted("a\nb\\$`\"\xff")), "'a\nb\\$`\"\xff'"},
		{word(bare("a"), quoted("b"), bare("c"), quoted("")), "a'b'c''"}, {word(quoted(""), bare("if")), "''if"},
		{word(param("x")), "${x}"}, {word(q(param("x"))), `"${x}"`}, {word(param("0"), param("10"), param("#"), param("@"), param("-")), "${0}${10}${#}${@}${-}"},
		{word(op("x", "len"), op("12", "len"), q(op("x", "len"))), `${#x}${#12}"${#x}"`},
		{word(op("x", "-")), "${x-}"}, {word(op("x", ":-", bare("a"))), "${x:-a}"}, {word(op("1", "=", quoted("}"))), "${1='}'}"}, {word(op("x", ":=", bare("="))), "${x:==}"}, {word(op("?", "?", bare("?"))), "${???}"}, {word(op("@", ":?")), "${@:?}"}, {word(op("$", "+", bare("+"))), "${$++}"}, {word(op("!", ":+", bare("a"), quoted("b"))), "${!:+a'b'}"},
		{word(op("x", "#", bare("*/"))), "${x#*/}"}, {word(op("x", "##", quoted("#"))), "${x##'#'}"}, {word(op("x", "%", bare(".%"))), "${x%.%}"}, {word(op("x", "%%", bare("%"))), "${x%%%}"}, {word(op("x", "%", quoted("%"))), "${x%'%'}"},
		{word(q(op("x", "-", q(op("y", "+", quoted("a"))), bare("b"), cmd()))), "\"${x-\"${y+'a'}\"b$(\n)}\""},
		{word(sum("")), "$(())"}, {word(q(sum("1 +\n(x)"))), "\"$((1 +\n(x)))\""}, {word(sum("(1)"), sum("2")), "$(((1)))$((2))"},
		{word(cmd()), "$(\n)"}, {word(q(cmd())), "\"$(\n)\""}, {word(cmd(of("a"), of("b"))), "$(\na\nb\n)"}, {word(bare("a"), q(cmd(saying(q(cmd(of("c")))))), quoted("b")), "a\"$(\n\"$(\nc\n)\"\n)\"'b'"},
		{word(quoted("a"), q(param("x")), quoted("b"), q(sum("1")), q(param("y"))), `'a'"${x}"'b'"$((1))""${y}"`},
	} {
		checkShow(t, "a "+x.want+"\n", Node{Kind: Simple, Words: [][]Part{word(bare("a")), x.w}})
		checkShow(t, "a="+x.want+"\n", Node{Kind: Simple, Assigns: []Assign{{"a", x.w}}})
		checkShow(t, "7>>"+x.want+"\n", with(Node{Kind: Simple}, to(7, ">>", x.w...)))
		checkShow(t, "case "+x.want+" in\n(a | "+x.want+")\n;;\nesac 0<"+x.want+"\n", with(choice(x.w, Arm{Words: [][]Part{word(bare("a")), x.w}}), to(0, "<", x.w...)))
		checkShow(t, "for i in "+x.want+" a\ndo\na\ndone\n", loop("i", [][]Part{x.w, word(bare("a"))}, of("a")))
		checkShow(t, "a ${x+"+x.want+"}\n", Node{Kind: Simple, Words: [][]Part{word(bare("a")), word(op("x", "+", x.w...))}})
	}
}

// P14.2: here-documents come behind the next newline of the script, in order; those within a Cmd behind its own.
func TestShowDocs(t *testing.T) {
	a, b := of("a"), of("b")
	q := inQuotes
	e, f := doc(0, "E", quoted("1\n")), doc(3, "F", q(param("x")), quoted("$\n"))
	const eText, fText = "1\nE\n", "${x}\\$\nF\n"
	checkShow(t, "0<<'E'\nE\n", with(Node{Kind: Simple}, doc(0, "E")))
	checkShow(t, "a 0<<'E'\n"+eText+"b\n", with(a, e), b)
	checkShow(t, "a 0<<'E' 1>x 3<<F\n"+eText+fText, with(a, e, to(1, ">", bare("x")), f))
	checkShow(t, "a 3<<F 0<<'E'\n"+fText+eText, with(a, f, e))
	checkShow(t, "a 0<<'E' 0<<'E'\n"+eText+eText, with(a, e, e))
	checkShow(t, "a 0<<'E' 1>'x\ny'\n"+eText, with(a, e, to(1, ">", quoted("x\ny"))))
	checkShow(t, "a 0<<'E' 1>$((1\n+1))\"${x-'\n'}\"\n"+eText, with(a, e, to(1, ">", sum("1\n+1"), q(op("x", "-", quoted("\n"))))))
	checkShow(t, "a 0<<'E' 1>$(\nb 3<<F\n"+fText+")\n"+eText, with(a, e, to(1, ">", cmd(with(b, f)))))
	checkShow(t, "a 0<<'E' 1>$(\n) 3<<F\n"+eText+fText, with(a, e, to(1, ">", cmd()), f))
	checkShow(t, "a 0<<'E' 1>${x-$(\nb 0<<'E' 1>$(\na 3<<F\n"+fText+")\n"+eText+")}\n"+eText, with(a, e, to(1, ">", op("x", "-", cmd(with(b, e, to(1, ">", cmd(with(a, f)))))))))
	checkShow(t, "a 0<<'E' | b 3<<F\n"+eText+fText, one(Pipe, with(a, e), with(b, f)))
	checkShow(t, "a 0<<'E' && {\n"+eText+"b 3<<F\n"+fText+"} 0<<'E'\n"+eText, one(And, with(a, e), with(one(Group, with(b, f)), e)))
	checkShow(t, "a 0<<'E' | while\n"+eText+"a\ndo\nb\ndone\n", one(Pipe, with(a, e), node(While, list(a), list(b))))
	checkShow(t, "a 0<<'E' | for i in x\n"+eText+"do\nb\ndone\n", one(Pipe, with(a, e), loop("i", of("x").Words, b)))
	checkShow(t, "a 0<<'E' | case $(\nb 3<<F\n"+fText+") in\n"+eText+"(x)\n;;\nesac\n", one(Pipe, with(a, e), choice(word(cmd(with(b, f))), Arm{Words: of("x").Words})))
	checkShow(t, "a 0<<'E' | case x in\n"+eText+"(x | y)\nb 3<<F\n"+fText+";;\nesac\n", one(Pipe, with(a, e), choice(word(bare("x")), Arm{Words: of("x", "y").Words, Body: list(with(b, f))})))
	checkShow(t, "if\na 0<<'E'\n"+eText+"then\nb 3<<F\n"+fText+"else\na\nfi 3<<F 0<<'E'\n"+fText+eText, with(node(If, list(with(a, e)), list(with(b, f)), list(a)), f, e))
	checkShow(t, "! (\na\n) 0<<'E' || f() (\n"+eText+"a\n) 3<<F\n"+fText, one(Or, one(Not, with(one(Sub, a), e)), function("f", with(one(Sub, a), f))))
	checkShow(t, "for i in $(\na 0<<'E'\n"+eText+") x\ndo\na\ndone\n", loop("i", [][]Part{word(cmd(with(a, e))), word(bare("x"))}, a))
}

// P14.2: Show of each byte in a quoted Lit, and of commands by chance.
func TestShowModel(t *testing.T) {
	for c := 1; c < 256; c++ {
		s := string([]byte{byte(c)})
		checkShow(t, "a '"+strings.ReplaceAll(s+"a"+s, "'", `'\''`)+"'\n", Node{Kind: Simple, Words: [][]Part{word(bare("a")), word(quoted(s + "a" + s))}})
		if Bare(byte(c)) {
			checkShow(t, "a "+s+"\n", of("a", s))
		}
	}
	size := 0
	for seed := range 3000 {
		m := &maker{rand.New(rand.NewSource(int64(140500 + seed))), 120}
		l := m.commands(1, 12)
		if got, want := Show(l), modelShow(l); got != want {
			t.Fatalf("Show of %+v: %s, want %s", l, short(got), short(want))
		}
		size += len(Show(l))
	}
	if size < 1000000 {
		t.Error("only", size, "bytes")
	}
}

// P14.2: no two commands, that may be, are written alike.
func TestShowApart(t *testing.T) {
	seen := map[string][]Node{}
	for seed := range 20000 {
		m := &maker{rand.New(rand.NewSource(int64(140600 + seed))), 8}
		l := m.commands(1, 4)
		s := Show(l)
		if other, there := seen[s]; there && !reflect.DeepEqual(bared(l), bared(other)) {
			t.Fatalf("%+v and %+v are both written as %q", l, other, s)
		}
		seen[s] = l
	}
}

// bared is the same with nil for each empty list.
func bared(l []Node) []Node {
	a := gather(l)
	for _, x := range a.lists {
		if len(*x) == 0 {
			*x = nil
		}
	}
	for _, x := range a.words {
		if len(*x) == 0 {
			*x = nil
		}
	}
	return l
}

// P14.2: Count of commands, in Lists and Arms alone.
func TestCount(t *testing.T) {
	a, b := of("a"), of("b")
	for i, x := range []struct {
		l    []Node
		want int
	}{
		{nil, 0}, {list(), 0}, {list(a), 1}, {list(a, b), 2}, {list(one(Pipe, a, b, a)), 4}, {list(one(And, one(And, a, b), b), a), 6},
		{list(node(If, list(a, b), list(a), list(b, b))), 6}, {list(loop("i", nil, a, b)), 3}, {list(function("f", one(Group, a))), 3}, {list(one(Not, one(Sub, a))), 3},
		{list(choice(word(bare("a")))), 1}, {list(choice(word(bare("a")), Arm{Words: a.Words}, Arm{Words: a.Words, Body: list(a, b)}, Arm{Words: a.Words, Body: list(one(Sub, a))})), 5},
		{list(saying(cmd(a, b))), 1}, {list(loop("i", [][]Part{word(cmd(a))}, b)), 2}, {list(with(one(Sub, a), to(1, ">", op("x", "-", cmd(b))))), 2}, {list(choice(word(cmd(a)), Arm{Words: [][]Part{word(cmd(b))}, Body: list(a)})), 2},
	} {
		if !Right(x.l, 20) {
			t.Error(i, "may not be")
		}
		if n := Count(x.l); n != x.want {
			t.Errorf("%d: Count of %+v: %d, want %d", i, x.l, n, x.want)
		}
	}
	for seed := range 3000 {
		m := &maker{rand.New(rand.NewSource(int64(140700 + seed))), 100}
		l := m.commands(1, 10)
		for _, p := range gather(l).parts {
			p.Body = nil // parts have no commands that count
		}
		if n, want := Count(l), len(gather(l).nodes); n != want {
			t.Fatalf("Count of %+v: %d, want %d", l, n, want)
		}
	}
}

// P1: whatever may not be, all calls end, and none panics.
func TestWrongTrees(t *testing.T) {
	r := rand.New(rand.NewSource(1408))
	var part func(int) Part
	var nodes func(int) []Node
	some := func(n int, f func()) {
		for range r.Intn(n) {
			f()
		}
	}
	words := func(left int) (l [][]Part) {
		some(3, func() {
			var w []Part
			some(3, func() { w = append(w, part(left)) })
			l = append(l, w)
		})
		return l
	}
	text := func() string {
		return pick(r, r.Intn(3), "a", "if", "1", "@", "\x00", "%", "\n", "<<", "len", "(", ":")
	}
	part = func(left int) Part {
		p := Part{Kind: r.Intn(7) - 1, Quoted: r.Intn(2) == 0, Text: text(), Op: text()}
		if left > 0 {
			p.Body = nodes(left - 1)
			for _, w := range words(left - 1) {
				p.Word = append(p.Word, w...)
			}
		}
		return p
	}
	nodes = func(left int) (l []Node) {
		some(3, func() {
			n := Node{Kind: r.Intn(17) - 1, Name: text()}
			if left > 0 {
				n.Words = words(left - 1)
				some(4, func() { n.Lists = append(n.Lists, nodes(left-1)) })
				some(2, func() { n.Assigns = append(n.Assigns, Assign{Name: text(), Word: slices.Concat(words(left - 1)...)}) })
				some(2, func() { n.Arms = append(n.Arms, Arm{words(left - 1), nodes(left - 1)}) })
				some(2, func() {
					n.Redirs = append(n.Redirs, Redir{r.Intn(4000) - 2000, pick(r, 1, "<<", ">", ""), text(), slices.Concat(words(left - 1)...)})
				})
			}
			l = append(l, n)
		})
		return l
	}
	for range 20000 {
		l := nodes(3)
		checkRight(t, l, 7)
		Count(l)
		Show(l)
		a := gather(l)
		for _, x := range a.redirs {
			x.Literal()
			x.Doc()
		}
		for _, w := range a.words {
			Plain(*w)
		}
	}
}

// What is handed in stays as it is, its spare room too, and calls don't hang on those ahead.
func TestTreesStay(t *testing.T) {
	for seed := range 500 {
		l := (&maker{rand.New(rand.NewSource(int64(140900 + seed))), 100}).commands(1, 9)
		same := (&maker{rand.New(rand.NewSource(int64(140900 + seed))), 100}).commands(1, 9)
		roomy := append(make([]Node, 0, len(l)+3), l...)
		first := Show(roomy)
		Right(roomy, 9)
		Count(roomy)
		for _, w := range gather(roomy).words {
			Plain(*w)
		}
		for _, x := range gather(roomy).redirs {
			x.Doc()
			x.Literal()
		}
		if !reflect.DeepEqual(roomy, same) || !reflect.DeepEqual(roomy[len(l):cap(roomy)], make([]Node, cap(roomy)-len(l))) {
			t.Fatalf("%+v was %+v", roomy, same)
		}
		if Show(roomy) != first || Show(same) != first {
			t.Fatalf("Show of %+v isn't always %s", l, short(first))
		}
	}
}
