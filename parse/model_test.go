package parse

import (
	"math/rand"
	"reflect"
	"regexp"
	"slices"
	"strings"
	"testing"

	"seabag/api"
	"seabag/ast"
)

// The model of commands: rules that tell all places where what begins at one place may end, of tokens with blanks between them.

type grammar struct {
	l    []string
	seen map[string][]int
}

func (g *grammar) at(i int) string {
	if i < len(g.l) {
		return g.l[i]
	}
	return ""
}

func isWord(s string) bool {
	return s != "" && !isRedir(s) && !slices.Contains([]string{";", "\n", ";;", "&", "&&", "||", "|", "(", ")"}, s)
}

func isRedir(s string) bool { return s == ">f" || s == "2>f" }

// then is all ends of a rule, from each of some places.
func then(from []int, rule func(int) []int) (out []int) {
	for _, i := range from {
		out = append(out, rule(i)...)
	}
	slices.Sort(out)
	return slices.Compact(out)
}

func (g *grammar) token(s ...string) func(int) []int {
	return func(i int) []int {
		if i < len(g.l) && slices.Contains(s, g.l[i]) {
			return []int{i + 1}
		}
		return nil
	}
}

func (g *grammar) any(rule func(int) []int) func(int) []int {
	return func(i int) (out []int) {
		for from := []int{i}; len(from) > 0; from = then(from, rule) {
			out = append(out, from...)
		}
		return out
	}
}

func maybe(rule func(int) []int) func(int) []int {
	return func(i int) []int { return append([]int{i}, rule(i)...) }
}

func (g *grammar) all(rules ...func(int) []int) func(int) []int {
	return func(i int) []int {
		from := []int{i}
		for _, rule := range rules {
			from = then(from, rule)
		}
		return from
	}
}

func (g *grammar) either(rules ...func(int) []int) func(int) []int {
	return func(i int) (out []int) {
		for _, rule := range rules {
			out = append(out, rule(i)...)
		}
		slices.Sort(out)
		return slices.Compact(out)
	}
}

func (g *grammar) lines(i int) []int { return g.any(g.token("\n"))(i) }

// some are commands, one at least.
func (g *grammar) some(i int) []int {
	key := "some" + string(rune(i))
	if out, there := g.seen[key]; there {
		return out
	}
	separator := g.all(g.token(";", "\n"), g.lines)
	out := g.all(g.lines, g.list, g.any(g.all(separator, g.list)), maybe(separator))(i)
	g.seen[key] = out
	return out
}

func (g *grammar) list(i int) []int {
	return g.all(g.pipeline, g.any(g.all(g.token("&&", "||"), g.lines, g.pipeline)))(i)
}

func (g *grammar) pipeline(i int) []int {
	return g.all(maybe(g.token("!")), g.command, g.any(g.all(g.token("|"), g.lines, g.command)))(i)
}

func (g *grammar) command(i int) []int {
	return g.either(g.simple, g.compound, g.all(g.name, g.token("("), g.token(")"), g.lines, g.compound))(i)
}

func (g *grammar) name(i int) []int {
	if s := g.at(i); ast.Name(s) && !ast.Reserved(s) {
		return []int{i + 1}
	}
	return nil
}

// simple ends only where neither a word nor a redirection goes on.
func (g *grammar) simple(i int) []int {
	from, ahead := i, true
	for ; isWord(g.at(i)) || isRedir(g.at(i)); i++ {
		s := g.at(i)
		if ahead && isWord(s) && s != "x=1" {
			if ast.Reserved(s) && (i == from || s != "{" && s != "}") { // of the bytes of { and } none is bare
				return nil
			}
			ahead = false
		}
	}
	if i == from {
		return nil
	}
	return []int{i}
}

func (g *grammar) word(i int) []int {
	if isWord(g.at(i)) {
		return []int{i + 1}
	}
	return nil
}

func (g *grammar) compound(i int) []int {
	t := g.token
	loop := g.all(t("do"), g.some, t("done"))
	separator := g.either(t(";"), t("\n"))
	pattern := g.all(maybe(t("(")), g.word, g.any(g.all(t("|"), g.word)), t(")"))
	body := g.either(g.some, g.lines)
	arm := func(i int) []int {
		if g.at(i) == "esac" {
			return nil
		}
		return g.all(pattern, body, t(";;"), g.lines)(i)
	}
	last := func(i int) []int {
		if g.at(i) == "esac" {
			return nil
		}
		return g.all(pattern, body)(i)
	}
	var branches func(int) []int
	branches = func(i int) []int {
		return g.all(g.some, t("then"), g.some, g.either(t("fi"), g.all(t("else"), g.some, t("fi")), g.all(t("elif"), branches)))(i)
	}
	out := g.either(
		g.all(t("("), g.some, t(")")),
		g.all(t("{"), g.some, t("}")),
		g.all(t("if"), branches),
		g.all(t("while", "until"), g.some, loop),
		g.all(t("for"), func(i int) []int {
			if ast.Name(g.at(i)) {
				return []int{i + 1}
			}
			return nil
		}, g.lines, g.either(g.all(t("in"), g.any(g.word), separator), maybe(t(";"))), g.lines, loop),
		g.all(t("case"), g.word, g.lines, t("in"), g.lines, g.any(arm), maybe(last), t("esac")),
	)(i)
	redirected := g.any(func(i int) []int {
		if isRedir(g.at(i)) {
			return []int{i + 1}
		}
		return nil
	})
	return then(out, redirected)
}

// modelScript tells whether tokens are a script.
func modelScript(l []string) bool {
	g := &grammar{l, map[string][]int{}}
	return slices.Contains(append(g.some(0), g.lines(0)...), len(l))
}

// checkTokens asks tokens, and tells whether they are a script.
func checkTokens(t *testing.T, l []string) bool {
	t.Helper()
	s := strings.Join(l, " ")
	want := modelScript(l)
	got, f := Parse(s, 64)
	if want && f != (Fault{}) || !want && (f.E != api.ErrSyntax || len(got) > 0) {
		t.Errorf("Parse of %s: %v, want a script: %v", short(s), f, want)
	}
	return want
}

// P15.1: all short runs of tokens, of some at a time.
func TestTokens(t *testing.T) {
	t.Parallel()
	for _, x := range []struct {
		tokens string
		longest,
		least int
	}{
		{"a ; N && | ! ( )", 5, 500},
		{"a ; N { } ( )", 5, 400},
		{"a ; if then fi", 7, 50},
		{"a else if then fi ;", 6, 1},
		{"a N while do done", 7, 50},
		{"a ; for in do done", 7, 10},
		{"a in case esac ) ;; (", 6, 10},
		{"a ( ) { } >f ;", 5, 200},
		{"x=1 >f a if } {", 5, 300},
		{"! a | ( ) >f &&", 5, 100},
		{"a & ; ;; ) | ||", 5, 40},
	} {
		tokens := strings.Fields(x.tokens)
		for i := range tokens {
			tokens[i] = strings.ReplaceAll(tokens[i], "N", "\n")
		}
		count := 0
		var l []string
		var longer func()
		longer = func() {
			if checkTokens(t, l) {
				count++
			}
			if len(l) == x.longest || t.Failed() {
				return
			}
			for _, s := range tokens {
				l = append(l, s)
				longer()
				l = l[:len(l)-1]
			}
		}
		longer()
		if count < x.least {
			t.Errorf("of %s only %d runs are scripts", x.tokens, count)
		}
	}
}

// shapes are commands of tokens, with places for others.
var shapes = []string{"S", "S", "S", "( L )", "{ L ; }", "if L ; then L ; fi", "if L N then L ; else L N fi", "if L ; then L ; elif L ; then L ; else L ; fi", "while L ; do L ; done", "until L N do L N done", "for a in W ; do L ; done", "for a ; do L ; done", "for f N do L ; done", "case a in a ) L ;; esac", "case a in ( a | f ) L ;; f ) ;; esac", "case a N in N a ) L N esac", "f ( ) { L ; }", "a ( ) N ( L )", "L | L", "L && L", "L || N L", "! S", "L ; L", "L N N L", "( L ) >f", "{ L N } 2>f >f"}

// runs makes tokens of shapes by chance, of which some are changed.
func runs(r *rand.Rand) []string {
	l := []string{"L"}
	for range 3 {
		var out []string
		for _, s := range l {
			switch s {
			case "L":
				out = append(out, strings.Fields(shapes[r.Intn(len(shapes))])...)
			default:
				out = append(out, s)
			}
		}
		l = out
	}
	var out []string
	for _, s := range l {
		switch s {
		case "S", "L":
			out = append(out, strings.Fields([]string{"a", "f", "x=1", "a f", ">f a", "x=1 a", "a if", "a }", "x=1 {", "a 2>f in"}[r.Intn(10)])...)
		case "W":
			out = append(out, strings.Fields([]string{"", "a", "a in", "do done"}[r.Intn(4)])...)
		case "N":
			out = append(out, "\n")
		default:
			out = append(out, s)
		}
	}
	tokens := strings.Fields("a f x=1 >f 2>f ; ; && || | ! ( ) { } if then elif else fi while until do done for in case esac ;; &")
	for range r.Intn(4) {
		i := r.Intn(len(out) + 1)
		switch r.Intn(3) {
		case 0:
			out = slices.Insert(out, i, append(tokens, "\n")[r.Intn(len(tokens)+1)])
		case 1:
			if i < len(out) {
				out = slices.Delete(out, i, i+1)
			}
		case 2:
			if i < len(out) {
				out[i] = tokens[r.Intn(len(tokens))]
			}
		}
	}
	return out
}

// P15.1: longer runs of tokens by chance, such as are scripts, and such of which some are changed.
func TestTokensByChance(t *testing.T) {
	t.Parallel()
	r := rand.New(rand.NewSource(1502))
	yes, no := 0, 0
	for range 60000 {
		l := runs(r)
		if len(l) > 60 {
			continue
		}
		if checkTokens(t, l) {
			yes++
			s := strings.Join(l, " ")
			got, _ := Parse(s, 64)
			checkAgain(t, s, got)
		} else {
			no++
		}
		if t.Failed() {
			return
		}
	}
	if yes < 15000 || no < 15000 {
		t.Error(yes, "scripts,", no, "that are none")
	}
}

// The model of words: regular expressions, one for each of what may stand in a word.

const (
	modelName    = `[A-Za-z_][A-Za-z0-9_]*`
	modelNumber  = `(?:0|[1-9][0-9]{0,3})`
	modelSpecial = `[@*#?$!-]`
)

var (
	goesOnLine  = regexp.MustCompile(`\A\\\n`)
	oneEscaped  = regexp.MustCompile(`(?s)\A\\([^\x00\n])`)
	inSingle    = regexp.MustCompile(`\A'([^'\x00]*)'`)
	escapedTwo  = regexp.MustCompile("\\A\\\\([$`\"\\\\])")
	lengthOf    = regexp.MustCompile(`\A\$\{#(` + modelName + `|` + modelNumber + `)\}`)
	inBracesAll = regexp.MustCompile(`\A\$\{(` + modelName + `|` + modelNumber + `|` + modelSpecial + `)\}`)
	withOp      = regexp.MustCompile(`\A\$\{(` + modelName + `|` + modelNumber + `|[@*?$!-])(:[-=?+]|##|%%|[-=?+#%])`)
	plainParam  = regexp.MustCompile(`\A\$(` + modelName + `|[0-9]|` + modelSpecial + `)`)
	noCommands  = regexp.MustCompile(`\A\$\(\)`)
	someCommand = regexp.MustCompile(`\$\([^()]`)
	oneBare     = regexp.MustCompile(`\A[a-zA-Z0-9_./,+:@*?\[\]!^=~%-]`)
	sumsBytes   = regexp.MustCompile(`\A[a-zA-Z0-9 \t\n_+\-*/%<>=!&|^~?:$()]*\z`)
)

// pieces are the parts of a word as they come, before bytes go together.
type pieces struct {
	l []ast.Part
}

func (p *pieces) lit(s string, quoted bool) {
	p.l = append(p.l, ast.Part{Kind: ast.Lit, Text: s, Quoted: quoted})
}

// together is the word that pieces make.
func (p *pieces) together() (out []ast.Part) {
	for _, x := range p.l {
		last := len(out) - 1
		if x.Kind == ast.Lit && last >= 0 && out[last].Kind == ast.Lit && out[last].Quoted == x.Quoted {
			out[last].Text += x.Text
		} else {
			out = append(out, x)
		}
	}
	for i := len(out) - 2; i >= 0; i-- {
		if out[i].Kind == ast.Lit && out[i].Text == "" && out[i+1].Quoted {
			out = slices.Delete(out, i, i+1)
		}
	}
	return out
}

// modelWord reads a word, up to a byte at which words end, or a } of braces; it tells what is left.
func modelWord(s string, braces bool) (w []ast.Part, rest string, ok bool) {
	var p pieces
	for s != "" && !strings.ContainsAny(s[:1], " \t\n;&|<>()") && !(braces && s[0] == '}') {
		if x := goesOnLine.FindString(s); x != "" {
			s = s[len(x):]
		} else if x := oneEscaped.FindStringSubmatch(s); x != nil {
			p.lit(x[1], true)
			s = s[len(x[0]):]
		} else if x := inSingle.FindStringSubmatch(s); x != nil {
			p.lit(x[1], true)
			s = s[len(x[0]):]
		} else if s[0] == '"' {
			p.lit("", true)
			if s, ok = modelDouble(&p, s[1:]); !ok {
				return nil, "", false
			}
		} else if s[0] == '$' {
			if s, ok = modelDollar(&p, s, false); !ok {
				return nil, "", false
			}
		} else if strings.ContainsAny(s[:1], "\\'`\x00") {
			return nil, "", false
		} else {
			p.lit(s[:1], !oneBare.MatchString(s))
			s = s[1:]
		}
	}
	return p.together(), s, true
}

func modelDouble(p *pieces, s string) (rest string, ok bool) {
	for s != "" && s[0] != '"' {
		if x := goesOnLine.FindString(s); x != "" {
			s = s[len(x):]
		} else if x := escapedTwo.FindStringSubmatch(s); x != nil {
			p.lit(x[1], true)
			s = s[2:]
		} else if s[0] == '$' {
			if s, ok = modelDollar(p, s, true); !ok {
				return "", false
			}
		} else if s[0] == '`' || s[0] == 0 {
			return "", false
		} else {
			p.lit(s[:1], true)
			s = s[1:]
		}
	}
	return strings.TrimPrefix(s, "\""), s != ""
}

func modelDollar(p *pieces, s string, quoted bool) (rest string, ok bool) {
	x := ast.Part{Quoted: quoted}
	if strings.HasPrefix(s, "$((") {
		for i := 3; i+2 <= len(s); i++ {
			if s[i:i+2] == "))" && strings.Count(s[:i+2], "(") == strings.Count(s[:i+2], ")") {
				x.Kind, x.Text = ast.Arith, s[3:i]
				left := regexp.MustCompile(`[^()]`).ReplaceAllString(x.Text, "")
				for strings.Contains(left, "()") {
					left = strings.ReplaceAll(left, "()", "")
				}
				p.l = append(p.l, x)
				return s[i+2:], left == "" && sumsBytes.MatchString(x.Text)
			}
		}
		return "", false
	}
	if m := noCommands.FindString(s); m != "" {
		x.Kind = ast.Cmd
		p.l = append(p.l, x)
		return s[len(m):], true
	}
	x.Kind = ast.Param
	if m := lengthOf.FindStringSubmatch(s); m != nil {
		x.Text, x.Op = m[1], "len"
		s = s[len(m[0]):]
	} else if m := inBracesAll.FindStringSubmatch(s); m != nil {
		x.Text = m[1]
		s = s[len(m[0]):]
	} else if m := withOp.FindStringSubmatch(s); m != nil {
		x.Text, x.Op = m[1], m[2]
		w, rest, ok := modelWord(s[len(m[0]):], true)
		if !ok || !strings.HasPrefix(rest, "}") {
			return "", false
		}
		if len(w) > 0 && w[0].Kind == ast.Lit && !w[0].Quoted && x.Op == "%" && w[0].Text[0] == '%' {
			w = slices.Insert(w, 0, ast.Part{Kind: ast.Lit, Text: "%", Quoted: true})
			w[1].Text = w[1].Text[1:]
			if w[1].Text == "" {
				w = slices.Delete(w, 1, 2)
			}
			w = (&pieces{w}).together()
		}
		x.Word = w
		s = rest[1:]
	} else if m := plainParam.FindStringSubmatch(s); m != nil {
		x.Text = m[1]
		s = s[len(m[0]):]
	} else if strings.HasPrefix(s, "${") || strings.HasPrefix(s, "$(") {
		return "", false
	} else {
		p.lit("$", true)
		return s[1:], true
	}
	p.l = append(p.l, x)
	return s, true
}

// modelLine is a line of words alone; known is false, if it ends ahead of the text's end, or may have a remark, or commands in a word.
func modelLine(s string) (n ast.Node, ok, known bool) {
	n.Kind = ast.Simple
	if someCommand.MatchString(s) {
		return n, false, false
	}
	for {
		s = strings.TrimLeft(s, " \t")
		if strings.HasPrefix(s, "\\\n") {
			s = s[2:]
			continue
		}
		if s == "" {
			return n, true, true
		}
		if s[0] == '\n' || s[0] == '#' {
			return n, false, false
		}
		w, rest, ok := modelWord(s, false)
		if !ok || rest == s {
			return n, false, true
		}
		n.Words = append(n.Words, w)
		s = rest
	}
}

// checkLine asks a line of words.
func checkLine(t *testing.T, s string) (yes bool) {
	t.Helper()
	want, ok, known := modelLine("- " + s)
	if !known {
		return false
	}
	got, f := Parse("- "+s, 64)
	if ok && (f != Fault{} || !reflect.DeepEqual(tidy(got), tidy(list(want)))) || !ok && (f.E != api.ErrSyntax || len(got) > 0) {
		t.Errorf("Parse of %s: %v %+v, want %v %+v", short("- "+s), f, got, ok, want)
	}
	if ok {
		checkAgain(t, "- "+s, got)
	}
	return ok
}

// P15.1: all short texts of the bytes that matter in words, and longer ones by chance.
func TestWordsModel(t *testing.T) {
	t.Parallel()
	yes, no := 0, 0
	ask := func(s string) {
		if checkLine(t, s) {
			yes++
		} else {
			no++
		}
	}
	all := []string{""}
	for n := range 5 {
		var longer []string
		for _, s := range all {
			ask(s)
			for _, x := range []string{"a", "1", "$", "{", "}", "\"", "'", "\\", "\\\n", "%", ":", "-", "#", "(", ")", " ", "é"} {
				if n < 4 {
					longer = append(longer, s+x)
				}
			}
		}
		all = longer
		if t.Failed() {
			return
		}
	}
	for _, s := range []string{"${", "\"${", "$(("} {
		for range 60000 {
			r := rand.New(rand.NewSource(int64(yes + no)))
			ask(s + pick(r, 1+r.Intn(3), "a", "b1", "_", "0", "10", "00", "12345", "@", "?", "!", "$", "-", "(", "1") + pick(r, r.Intn(3), "-", ":-", "=", ":", "?", "+", "%", "%%", "##", "*", ")", "(") + pick(r, r.Intn(4), "a", "%", "'b c'", "\\\n", "\"$x\"", "${y}", "''", "\\}", "\"", "$", ")", " ") + pick(r, 1, "}", "}", "}\"", "))", "))\"", "}a", "}}", ""))
		}
	}
	for i := range 100000 {
		r := rand.New(rand.NewSource(int64(1503000 + i)))
		ask(pick(r, 1+r.Intn(9), "a", "\"", "\"", "'", "''", "\\\n", "\\", "$x", "${x-", "}", "%", "$((", "))", "(", ")", "1", " ", "${#y}", "$", "\"\"", "`", "\x00", "{", "${z%", "%", "$()"))
	}
	if yes < 50000 || no < 100000 {
		t.Error(yes, "scripts,", no, "that are none")
	}
}
