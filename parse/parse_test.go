package parse

import (
	"math"
	"math/rand"
	"reflect"
	"slices"
	"strconv"
	"strings"
	"testing"

	"seabag/api"
	"seabag/ast"
)

func repeat(s string, n int) string { return strings.Repeat(s, n) }

// short is a text that a failing test can show.
func short(s string) string {
	if len(s) > 300 {
		return strconv.Quote(s[:300]) + ".. (" + strconv.Itoa(len(s)) + " bytes)"
	}
	return strconv.Quote(s)
}

// pick is a text of so many pieces.
func pick(r *rand.Rand, n int, pieces ...string) string {
	var s strings.Builder
	for range n {
		s.WriteString(pieces[r.Intn(len(pieces))])
	}
	return s.String()
}

// The trees of the tests, in short.

func bare(s string) ast.Part   { return ast.Part{Kind: ast.Lit, Text: s} }
func quoted(s string) ast.Part { return ast.Part{Kind: ast.Lit, Text: s, Quoted: true} }
func param(s string) ast.Part  { return ast.Part{Kind: ast.Param, Text: s} }
func sum(s string) ast.Part    { return ast.Part{Kind: ast.Arith, Text: s} }
func cmd(l ...ast.Node) ast.Part {
	return ast.Part{Kind: ast.Cmd, Body: l}
}
func op(s, op string, w ...ast.Part) ast.Part {
	return ast.Part{Kind: ast.Param, Text: s, Op: op, Word: w}
}
func inQuotes(p ast.Part) ast.Part {
	p.Quoted = true
	return p
}
func word(l ...ast.Part) []ast.Part { return l }

// of is a simple command of words that are bytes alone, none of them quoted.
func of(l ...string) ast.Node {
	n := ast.Node{Kind: ast.Simple}
	for _, s := range l {
		n.Words = append(n.Words, word(bare(s)))
	}
	return n
}

func list(l ...ast.Node) []ast.Node { return l }

func node(kind int, l ...[]ast.Node) ast.Node { return ast.Node{Kind: kind, Lists: l} }

// one is a command of commands, each in a list of its own.
func one(kind int, l ...ast.Node) ast.Node {
	n := ast.Node{Kind: kind}
	for _, x := range l {
		n.Lists = append(n.Lists, list(x))
	}
	return n
}

func with(n ast.Node, l ...ast.Redir) ast.Node {
	n.Redirs = append(slices.Clone(n.Redirs), l...)
	return n
}

func saying(l ...[]ast.Part) ast.Node {
	return ast.Node{Kind: ast.Simple, Words: l}
}

func setting(name string, w ...ast.Part) ast.Node {
	return ast.Node{Kind: ast.Simple, Assigns: []ast.Assign{{Name: name, Word: w}}}
}

func to(fd int, op string, w ...ast.Part) ast.Redir {
	return ast.Redir{Fd: fd, Op: op, Word: w}
}

func doc(fd int, tag string, w ...ast.Part) ast.Redir {
	return ast.Redir{Fd: fd, Op: "<<", Tag: tag, Word: w}
}

func function(name string, n ast.Node) ast.Node {
	return ast.Node{Kind: ast.Func, Name: name, Lists: [][]ast.Node{{n}}}
}

func loop(name string, words [][]ast.Part, l ...ast.Node) ast.Node {
	return ast.Node{Kind: ast.For, Name: name, Words: words, Lists: [][]ast.Node{l}}
}

func choice(w []ast.Part, l ...ast.Arm) ast.Node {
	return ast.Node{Kind: ast.Case, Words: [][]ast.Part{w}, Arms: l}
}

func arm(words [][]ast.Part, l ...ast.Node) ast.Arm { return ast.Arm{Words: words, Body: l} }

// tidy is the same with nil for each empty list.
func tidy(l []ast.Node) (out []ast.Node) {
	for _, n := range l {
		x := ast.Node{Kind: n.Kind, Name: n.Name, Words: tidyWords(n.Words)}
		for _, a := range n.Assigns {
			x.Assigns = append(x.Assigns, ast.Assign{Name: a.Name, Word: tidyWord(a.Word)})
		}
		for _, r := range n.Redirs {
			r.Word = tidyWord(r.Word)
			x.Redirs = append(x.Redirs, r)
		}
		for _, inner := range n.Lists {
			x.Lists = append(x.Lists, tidy(inner))
		}
		for _, a := range n.Arms {
			x.Arms = append(x.Arms, ast.Arm{Words: tidyWords(a.Words), Body: tidy(a.Body)})
		}
		out = append(out, x)
	}
	return out
}

func tidyWords(l [][]ast.Part) (out [][]ast.Part) {
	for _, w := range l {
		out = append(out, tidyWord(w))
	}
	return out
}

func tidyWord(w []ast.Part) (out []ast.Part) {
	for _, p := range w {
		p.Word, p.Body = tidyWord(p.Word), tidy(p.Body)
		out = append(out, p)
	}
	return out
}

// levels is how deep some commands are.
func levels(l []ast.Node) int {
	deep := 0
	var nodes func([]ast.Node, int)
	var parts func([]ast.Part, int)
	parts = func(w []ast.Part, level int) {
		for _, p := range w {
			deep = max(deep, level)
			parts(p.Word, level+1)
			nodes(p.Body, level+1)
		}
	}
	nodes = func(l []ast.Node, level int) {
		for _, n := range l {
			deep = max(deep, level)
			for _, a := range n.Assigns {
				parts(a.Word, level+1)
			}
			for _, r := range n.Redirs {
				parts(r.Word, level+1)
			}
			for _, inner := range n.Lists {
				nodes(inner, level+1)
			}
			for _, w := range n.Words {
				parts(w, level+1)
			}
			for _, a := range n.Arms {
				for _, w := range a.Words {
					parts(w, level+1)
				}
				nodes(a.Body, level+1)
			}
		}
	}
	nodes(l, 1)
	return deep
}

// checkParse asks a script, of at most 64 levels, for commands, at their levels, above, and below.
func checkParse(t *testing.T, s string, want ...ast.Node) {
	t.Helper()
	deep := max(1, levels(want))
	for _, d := range []int{deep, 64} {
		l, f := Parse(s, d)
		if f != (Fault{}) || !reflect.DeepEqual(tidy(l), tidy(want)) {
			t.Errorf("Parse of %s at %d: %v %s, want %s", short(s), d, f, short(ast.Show(l)), short(ast.Show(want)))
			return
		}
	}
	if l, f := Parse(s, deep-1); deep > 1 && (len(l) > 0 || f != Fault{E: api.ErrDeep}) {
		t.Errorf("Parse of %s at %d: %v %s, want ErrDeep", short(s), deep-1, f, short(ast.Show(l)))
	}
}

// checkSyntax asks a script that is none.
func checkSyntax(t *testing.T, s string) {
	t.Helper()
	for _, d := range []int{1, 20, 64} {
		if l, f := Parse(s, d); len(l) > 0 || f.E != api.ErrSyntax || f.At < 0 || f.At > len(s) {
			t.Errorf("Parse of %s at %d: %v %s, want ErrSyntax", short(s), d, f, short(ast.Show(l)))
		}
	}
}

func checkDeep(t *testing.T, s string, at int) {
	t.Helper()
	for _, d := range []int{1, 64} {
		if l, f := Parse(s, d); len(l) > 0 || f != (Fault{api.ErrDeep, at}) {
			t.Errorf("Parse of %s at %d: %v, want ErrDeep at %d, behind %s", short(s), d, f, at, short(s[max(0, at-20):at]))
		}
	}
}

// checkAgain writes what was read, and reads it again.
func checkAgain(t *testing.T, s string, l []ast.Node) {
	t.Helper()
	shown := ast.Show(l)
	again, f := Parse(shown, 64)
	if f != (Fault{}) || !reflect.DeepEqual(tidy(again), tidy(l)) {
		t.Errorf("what %s says is written %s, which is read as %v %s", short(s), short(shown), f, short(ast.Show(again)))
	}
}

// P15.1: what may be handed in.
func TestArguments(t *testing.T) {
	for _, deep := range []int{math.MinInt, -1, 0, 65, 66, math.MaxInt} {
		for _, s := range []string{"", "a", "(", repeat("a", api.MaxScript+1)} {
			if l, f := Parse(s, deep); len(l) > 0 || f != (Fault{E: api.ErrRange}) {
				t.Errorf("Parse of %s at %d: %v", short(s), deep, f)
			}
		}
	}
	for _, s := range []string{repeat("a", api.MaxScript+1), repeat("(", api.MaxScript+1), repeat("\x00", api.MaxScript+9), repeat("\n", api.MaxScript+1)} {
		for _, deep := range []int{1, 64} {
			if l, f := Parse(s, deep); len(l) > 0 || f != (Fault{E: api.ErrLong}) {
				t.Errorf("Parse of %s at %d: %v", short(s), deep, f)
			}
		}
	}
	checkParse(t, repeat("a", api.MaxScript), of(repeat("a", api.MaxScript)))
	checkParse(t, repeat("\n", api.MaxScript))
	checkParse(t, "a '"+repeat("\xff", api.MaxScript-4)+"'", saying(word(bare("a")), word(quoted(repeat("\xff", api.MaxScript-4)))))
	checkDeep(t, repeat("(", api.MaxScript), 64)
	checkSyntax(t, repeat(")", api.MaxScript))
}

// P15.1: the chapter's example, and plain commands.
func TestCommands(t *testing.T) {
	a, b, c, d := of("a"), of("b"), of("c"), of("d")
	checkParse(t, `a 'b'"$c" >x && d`, one(ast.And, with(saying(word(bare("a")), word(quoted("b"), inQuotes(param("c")))), to(1, ">", bare("x"))), d))
	for _, s := range []string{"", " ", "\t", "\n", "\n\n", " \n\t\n", "#", "# a", "#a\n", " # ( ` \x00 ' \"\n#\n", "\\\n", "\\\n\\\n", " \\\n\t#\\\n"} {
		checkParse(t, s)
	}
	for _, s := range []string{"a", "a\n", " a", "\ta\t", "\n\n a", "a;", "a ;", "a ; ", "a;\n", "a#", "a # ; b", "a #\n", "#\na", "\\\na", "a\\\n", "a \\\n", "a;#b", "a; #b\n#c", "a\n#\n \n"} {
		if s == "a#" {
			checkParse(t, s, saying(word(bare("a"), quoted("#"))))
			continue
		}
		checkParse(t, s, a)
	}
	for _, s := range []string{"a;b", "a\nb", "a ; b ;", "a;\nb", "a\n\n\nb\n", "a;#;\nb", "a #b\nb", "a;\\\nb"} {
		checkParse(t, s, a, b)
	}
	checkParse(t, "a b\tc", of("a", "b", "c"))
	checkParse(t, "a \\\n b\\\nc \\\n", of("a", "bc"))
	checkParse(t, "a if then { } ! in", saying(word(bare("a")), word(bare("if")), word(bare("then")), word(quoted("{")), word(quoted("}")), word(bare("!")), word(bare("in"))))
	for _, s := range []string{"a&&b", "a && b", "a&&\nb", "a\\\n&&#c\n\n\tb", "a && \\\n b;"} {
		checkParse(t, s, one(ast.And, a, b))
	}
	for _, s := range []string{"a||b", "a || b", "a||\nb", "a || # c\n\n\tb\n"} {
		checkParse(t, s, one(ast.Or, a, b))
	}
	for _, s := range []string{"a|b|c", "a | b | c", "a|\nb|#c\n\n c"} {
		checkParse(t, s, one(ast.Pipe, a, b, c))
	}
	checkParse(t, "a && b || c && d", one(ast.And, one(ast.Or, one(ast.And, a, b), c), d))
	checkParse(t, "a || b && c || d; a", one(ast.Or, one(ast.And, one(ast.Or, a, b), c), d), a)
	checkParse(t, "a | b && c | d", one(ast.And, one(ast.Pipe, a, b), one(ast.Pipe, c, d)))
	checkParse(t, "! a", one(ast.Not, a))
	checkParse(t, "! a | b", one(ast.Not, one(ast.Pipe, a, b)))
	checkParse(t, "! a && ! b || !\t\\\nc", one(ast.Or, one(ast.And, one(ast.Not, a), one(ast.Not, b)), one(ast.Not, c)))
	checkParse(t, "!(a)", one(ast.Not, one(ast.Sub, a)))
	checkParse(t, "!a !", of("!a", "!"))
	checkParse(t, "! >x", one(ast.Not, with(ast.Node{Kind: ast.Simple}, to(1, ">", bare("x")))))
	checkParse(t, "! f() { a; } | b", one(ast.Not, one(ast.Pipe, function("f", one(ast.Group, a)), b)))
}

// P15.1: assignments and first words.
func TestFirstWords(t *testing.T) {
	q := inQuotes
	checkParse(t, "x=", setting("x"))
	checkParse(t, "x=1", setting("x", bare("1")))
	checkParse(t, "_9=a=b", setting("_9", bare("a=b")))
	checkParse(t, "if=then", setting("if", bare("then")))
	checkParse(t, "x='a b'c", setting("x", quoted("a b"), bare("c")))
	checkParse(t, "x=\"\"", setting("x", quoted("")))
	checkParse(t, "x=\"$y\"", setting("x", q(param("y"))))
	checkParse(t, "x=$y", setting("x", param("y")))
	checkParse(t, "x=a$y", setting("x", bare("a"), param("y")))
	checkParse(t, "x=#", setting("x", quoted("#")))
	checkParse(t, "x\\\ny\\\n=\\\n1\\\n2", setting("xy", bare("12")))
	checkParse(t, "x=\\\n", setting("x"))
	checkParse(t, "x= a", ast.Node{Kind: ast.Simple, Assigns: setting("x").Assigns, Words: of("a").Words})
	checkParse(t, "x= a=b c d=e", ast.Node{Kind: ast.Simple, Assigns: append(setting("x").Assigns, setting("a", bare("b")).Assigns...), Words: of("c", "d=e").Words})
	checkParse(t, ">f x=1 <g y= a b=c >h", with(ast.Node{Kind: ast.Simple, Assigns: append(setting("x", bare("1")).Assigns, setting("y").Assigns...), Words: of("a", "b=c").Words}, to(1, ">", bare("f")), to(0, "<", bare("g")), to(1, ">", bare("h"))))
	checkParse(t, "1x=3", of("1x=3"))
	checkParse(t, "=a", of("=a"))
	checkParse(t, "x+=1 a[1]=2", of("x+=1", "a[1]=2"))
	checkParse(t, "'x'=1", saying(word(quoted("x"), bare("=1"))))
	checkParse(t, "x'='1", saying(word(bare("x"), quoted("="), bare("1"))))
	checkParse(t, "x\\=1", saying(word(bare("x"), quoted("="), bare("1"))))
	checkParse(t, "''x=1", saying(word(quoted(""), bare("x=1"))))
	checkParse(t, "$x=1", saying(word(param("x"), bare("=1"))))
	checkParse(t, "x$y=1", saying(word(bare("x"), param("y"), bare("=1"))))
	for _, s := range []string{"if", "then", "elif", "else", "fi", "while", "until", "do", "done", "for", "in", "case", "esac", "!"} {
		checkSyntax(t, s)
		if s != "!" {
			checkSyntax(t, s+" a")
		}
		checkSyntax(t, "x=1 "+s)
		checkSyntax(t, ">f "+s+" a")
		checkSyntax(t, "a | "+s)
		checkSyntax(t, "a && "+s)
		checkSyntax(t, s[:1]+"\\\n"+s[1:]+" a")
		checkSyntax(t, s+"\\\n")
		checkSyntax(t, s+"() { a; }")
		checkSyntax(t, s+" () { a; }")
		checkParse(t, "a "+s, of("a", s))
		checkParse(t, s+"a", of(s+"a"))
		checkParse(t, s+"''", saying(word(bare(s), quoted(""))))
		checkParse(t, "''"+s, saying(word(quoted(""), bare(s))))
		checkParse(t, "\\"+s[:1]+s[1:], saying(word(append(word(quoted(s[:1])), slices.DeleteFunc(word(bare(s[1:])), func(p ast.Part) bool { return p.Text == "" })...)...)))
		checkParse(t, "'"+s+"' a", saying(word(quoted(s)), word(bare("a"))))
		checkParse(t, s+"$x", saying(word(bare(s), param("x"))))
		checkParse(t, "x=1 '"+s+"'", ast.Node{Kind: ast.Simple, Assigns: setting("x", bare("1")).Assigns, Words: [][]ast.Part{word(quoted(s))}})
	}
	// Of the bytes of { and } none is bare, so that they are quoted where they don't stand for brackets.
	for _, s := range []string{"{", "}"} {
		checkSyntax(t, s)
		checkSyntax(t, s+" a")
		checkSyntax(t, "a | "+s)
		checkSyntax(t, "a && "+s+" b")
		checkParse(t, "x= "+s, ast.Node{Kind: ast.Simple, Assigns: setting("x").Assigns, Words: [][]ast.Part{word(quoted(s))}})
		checkParse(t, s+"a", saying(word(quoted(s), bare("a"))))
		checkParse(t, s+"\\\n", saying(word(quoted(s))))
		checkParse(t, s+s+" b", saying(word(quoted(s+s)), word(bare("b"))))
	}
	checkParse(t, "{}", saying(word(quoted("{}"))))
}

// P15.1: words, and the parts that they have.
func TestWords(t *testing.T) {
	q := inQuotes
	for _, x := range []struct {
		s string
		w []ast.Part
	}{
		{"a", word(bare("a"))}, {"a\\\nb", word(bare("ab"))}, {"azAZ09_./,+-:@*?[]!^=~%", word(bare("azAZ09_./,+-:@*?[]!^=~%"))},
		{"\\a", word(quoted("a"))}, {"a\\b", word(bare("a"), quoted("b"))}, {"\\ \\\t\\'\\\"\\\\\\$\\`\\#", word(quoted(" \t'\"\\$`#"))}, {"\\\xff\\\x01", word(quoted("\xff\x01"))},
		{"''", word(quoted(""))}, {"'a'", word(quoted("a"))}, {"'a\nb\\\n$c`\"'", word(quoted("a\nb\\\n$c`\""))}, {"'a''b'", word(quoted("ab"))}, {"'a'\\\n'b'", word(quoted("ab"))}, {"a''b", word(bare("a"), quoted(""), bare("b"))}, {"'a'b", word(quoted("a"), bare("b"))},
		{"\"\"", word(quoted(""))}, {"\"\"''\"\"", word(quoted(""))}, {"\"\\\n\"", word(quoted(""))}, {"\"a\\\nb\"", word(quoted("ab"))}, {"\"a b'#\n;&|<>()\"", word(quoted("a b'#\n;&|<>()"))}, {`"\$\` + "`" + `\"\\"`, word(quoted("$`\"\\"))}, {`"\a\ \'\n\}"`, word(quoted(`\a\ \'\n\}`))}, {`"a"\b'c'`, word(quoted("abc"))},
		{"\"$\"", word(quoted("$"))}, {"\"$ $'$\"$", word(quoted("$ $'$$"))}, {"$", word(quoted("$"))}, {"a$", word(bare("a"), quoted("$"))}, {"$'a'", word(quoted("$a"))}, {"$\"a\"", word(quoted("$a"))}, {"$%$/$=$.", word(quoted("$"), bare("%"), quoted("$"), bare("/"), quoted("$"), bare("="), quoted("$"), bare("."))}, {"$\\\nx", word(quoted("$"), bare("x"))}, {"$\\x", word(quoted("$x"))}, {"$\xe9", word(quoted("$\xe9"))}, {"$[", word(quoted("$"), bare("["))}, {"$}", word(quoted("$}"))},
		{"\xff\x01{}\r\v", word(quoted("\xff\x01{}\r\v"))}, {"a#b", word(bare("a"), quoted("#"), bare("b"))}, {"é", word(quoted("é"))}, {"a{b}", word(bare("a"), quoted("{"), bare("b"), quoted("}"))}, {"\\\n''#", word(quoted("#"))},
		{"$x", word(param("x"))}, {"$x1_y-z", word(param("x1_y"), bare("-z"))}, {"$x\\\ny", word(param("x"), bare("y"))}, {"$if", word(param("if"))}, {"$1a", word(param("1"), bare("a"))}, {"$10", word(param("1"), bare("0"))}, {"$01", word(param("0"), bare("1"))}, {"$$$x", word(param("$"), param("x"))}, {"$@$*$#$?$-$!", word(param("@"), param("*"), param("#"), param("?"), param("-"), param("!"))}, {"$#x", word(param("#"), bare("x"))}, {"$_", word(param("_"))}, {"$xé", word(param("x"), quoted("é"))},
		{"${x}", word(param("x"))}, {"${x}y", word(param("x"), bare("y"))}, {"${0}${1}${10}${9999}", word(param("0"), param("1"), param("10"), param("9999"))}, {"${@}${*}${#}${?}${-}${$}${!}", word(param("@"), param("*"), param("#"), param("?"), param("-"), param("$"), param("!"))},
		{"${#x}${#1}${#9999}${#_}", word(op("x", "len"), op("1", "len"), op("9999", "len"), op("_", "len"))},
		{"${x-}${x:-}${x=}${x:=}${x?}${x:?}${x+}${x:+}${x#}${x##}${x%}${x%%}", word(op("x", "-"), op("x", ":-"), op("x", "="), op("x", ":="), op("x", "?"), op("x", ":?"), op("x", "+"), op("x", ":+"), op("x", "#"), op("x", "##"), op("x", "%"), op("x", "%%"))},
		{"${x-a}${x:-a}${1=a}${@:=a}${*?a}${?:?a}${-+a}${$:+a}${!#a}${x##a}${x%a}${x%%a}", word(op("x", "-", bare("a")), op("x", ":-", bare("a")), op("1", "=", bare("a")), op("@", ":=", bare("a")), op("*", "?", bare("a")), op("?", ":?", bare("a")), op("-", "+", bare("a")), op("$", ":+", bare("a")), op("!", "#", bare("a")), op("x", "##", bare("a")), op("x", "%", bare("a")), op("x", "%%", bare("a")))},
		{"${--}${??}${---}${x--}", word(op("-", "-"), op("?", "?"), op("-", "-", bare("-")), op("x", "-", bare("-")))},
		{"${x%%%}", word(op("x", "%%", bare("%")))}, {"${x%\\\n%}", word(op("x", "%", quoted("%")))}, {"${x%\\\n\\\n%%a}", word(op("x", "%", quoted("%"), bare("%a")))}, {"${x%\\\na%}", word(op("x", "%", bare("a%")))}, {"${x%''%}", word(op("x", "%", quoted(""), bare("%")))}, {"${x%\\%}", word(op("x", "%", quoted("%")))}, {"${x%%\\\n%}", word(op("x", "%%", bare("%")))}, {"${x-\\\n-}", word(op("x", "-", bare("-")))}, {"${x%\\\n}", word(op("x", "%"))}, {"${x%\\\n%''}", word(op("x", "%", quoted("%")))}, {"${x%$y%}", word(op("x", "%", param("y"), bare("%")))},
		{"${x###}", word(op("x", "##", quoted("#")))}, {"${x#\\\n#}", word(op("x", "#", quoted("#")))}, {"${x:-:-}", word(op("x", ":-", bare(":-")))},
		{"${x-'}'}", word(op("x", "-", quoted("}")))}, {"${x-\\}}", word(op("x", "-", quoted("}")))}, {"${x-\"}\"}}", word(op("x", "-", quoted("}")), quoted("}"))}, {"${x-{}}", word(op("x", "-", quoted("{")), quoted("}"))}, {"${x-' ;\n'\\ }", word(op("x", "-", quoted(" ;\n ")))}, {"${x-#}", word(op("x", "-", quoted("#")))}, {"${x-$}", word(op("x", "-", quoted("$")))},
		{"${x-${y:-${z+a}}b}", word(op("x", "-", op("y", ":-", op("z", "+", bare("a"))), bare("b")))}, {"\"${x-\"${y-'a'}\"b$(c)}\"", word(q(op("x", "-", q(op("y", "-", quoted("a"))), bare("b"), cmd(of("c")))))},
		{"\"$x\"", word(q(param("x")))}, {"\"$x$y\"", word(q(param("x")), q(param("y")))}, {"\"a$x\"b", word(quoted("a"), q(param("x")), bare("b"))}, {"\"$x\"\"\"", word(q(param("x")), quoted(""))}, {"\"$x\"''\"$y\"", word(q(param("x")), q(param("y")))}, {"''\"\"\"$x\"", word(q(param("x")))}, {"''$x", word(quoted(""), param("x"))}, {"\"\"$x\"$y\"", word(quoted(""), param("x"), q(param("y")))}, {"a\"\"\"$x\"", word(bare("a"), q(param("x")))}, {"''\\\n\"\\\n$x\"", word(q(param("x")))}, {"\"$x\"'a'", word(q(param("x")), quoted("a"))}, {"\"$x'$y'\"", word(q(param("x")), quoted("'"), q(param("y")), quoted("'"))}, {"\"${x}a$1\\\n0\"", word(q(param("x")), quoted("a"), q(param("1")), quoted("0"))},
		{"$((1))", word(sum("1"))}, {"$(())", word(sum(""))}, {"$(((1)))$((2))", word(sum("(1)"), sum("2"))}, {"$(( (a+\n\t1)*(2) ))", word(sum(" (a+\n\t1)*(2) "))}, {"\"$((x))\"a", word(q(sum("x")), bare("a"))}, {"$((()))", word(sum("()"))}, {"$(((a)+(b)))", word(sum("(a)+(b)"))}, {"$((1))a", word(sum("1"), bare("a"))}, {"$(($x+))", word(sum("$x+"))},
		{"$(a)", word(cmd(of("a")))}, {"$()", word(cmd())}, {"$( )$(\n)$(#)\n)", word(cmd(), cmd(), cmd())}, {"$(a;b\n)c", word(cmd(of("a"), of("b")), bare("c"))}, {"\"$(a \"$(b)\")\"", word(q(cmd(saying(word(bare("a")), word(q(cmd(of("b"))))))))}, {"$( (a))", word(cmd(one(ast.Sub, of("a"))))}, {"$(a && b)", word(cmd(one(ast.And, of("a"), of("b"))))}, {"$(case a in b) c;; esac)", word(cmd(choice(word(bare("a")), arm(of("b").Words, of("c")))))}, {"$(a # )\n)", word(cmd(of("a")))}, {"$({ a; })", word(cmd(one(ast.Group, of("a"))))},
	} {
		checkParse(t, "- "+x.s, saying(word(bare("-")), x.w))
		checkParse(t, "\"-\"\t"+x.s+"\\\n;-", saying(word(quoted("-")), x.w), of("-"))
		checkParse(t, "x="+x.s+" -", ast.Node{Kind: ast.Simple, Assigns: setting("x", x.w...).Assigns, Words: of("-").Words})
		checkParse(t, "for i in "+x.s+" - ;do -;done", loop("i", [][]ast.Part{x.w, word(bare("-"))}, of("-")))
		checkParse(t, "case "+x.s+" in -|"+x.s+")esac", choice(x.w, arm([][]ast.Part{word(bare("-")), x.w})))
		checkParse(t, "<"+x.s+" >\\\n"+x.s, with(ast.Node{Kind: ast.Simple}, to(0, "<", x.w...), to(1, ">", x.w...)))
		if !strings.Contains(x.s, "}") { // which may end the outer one's word
			checkParse(t, "- ${y:-"+x.s+"}", saying(word(bare("-")), word(op("y", ":-", x.w...))))
			checkParse(t, "- \"${y#"+x.s+"}\"", saying(word(bare("-")), word(q(op("y", "#", tidyWord(x.w)...)))))
		}
	}
	for _, s := range []string{
		"`", "`a`", "a`", "\x00", "a\x00", "\\\x00", "'", "'a", "'a\x00'", "'\x00", "\"", "\"a", "\"`\"", "\"\x00\"", "\"\\\x00\"", "\"a\\\"", "\"'\"'", "\"$x", "\"$(a)", "\"${x}",
		"${", "${}", "${x", "${x!}", "${x/a}", "${x^}", "${x:}", "${x:1}", "${x }", "${ x}", "${x\\\n}", "${\\\nx}", "$\\\n{x}'", "${x:\\\n-a}", "${01}", "${00}", "${12345}", "${1a}", "${%}", "${+}", "${=}", "${'x'}", "${!x}", "${@a}", "${é}", "${x\x00}",
		"${#@}", "${#*}", "${##}", "${#-}", "${#?}", "${#$}", "${#!}", "${##a}", "${#-a}", "${#x-a}", "${#x#}", "${#01}", "${#12345}", "${# }", "${#x", "${#", "${#:-a}", "${#%%a}",
		"${x-a b}", "${x- }", "${x-\t}", "${x-\n}", "${x-;}", "${x-a;}", "${x-&}", "${x-|}", "${x-<}", "${x->}", "${x-(}", "${x-)}", "${x-a", "${x-", "${x-`}", "${x-\x00}", "${x-'}", "${x-\"}", "${x-\\", "${x-${y}", "${x-$(a}",
		"$((1", "$((", "$((1)", "$((1) )", "$((1)+(2))", "$((;))", "$((1\\\n))", "$((\"1\"))", "$((1#2))", "$((a.b))", "$((a,b))", "$((${x}))", "$((`1`))", "$((\x00))", "$(((1))", "$((a)b)", "$((a);b)", "\"$((1)\"",
		"$(", "$(a", "$(a;", "$(a;;)", "$(a&)", "$(if)", "$(a)(", "$(fi)", "$(})", "$(then)", "$( (a )", "\"$(\"", "$(a \")", "$(a\"", "$(#)", "$(')", "$(`)",
	} {
		checkSyntax(t, "- "+s)
		checkSyntax(t, "x="+s)
		checkSyntax(t, "- >"+s+" b")
		checkSyntax(t, "- a"+s+" ; b")
		checkSyntax(t, "case "+s+" in a) b;; esac")
		checkSyntax(t, "for i in "+s+"; do a; done")
		checkSyntax(t, "- ${y-"+s+"}")
	}
	for _, s := range []string{"\\", "a\\", "x=\\", "a >\\", "''\\", "(\\", "a\\\n\\"} {
		checkSyntax(t, s)
	}
}

// P15.1: commands with brackets and reserved words.
func TestCompound(t *testing.T) {
	a, b, c, d := of("a"), of("b"), of("c"), of("d")
	for _, x := range []struct {
		n    ast.Node
		said []string
	}{
		{one(ast.Sub, a), []string{"(a)", "( a )", "(a;)", "(\na\n)", "(\\\n#\n a # )\n)"}},
		{node(ast.Sub, list(a, b)), []string{"(a;b)", "( a\nb )", "(a; b;)"}},
		{one(ast.Sub, one(ast.Sub, a)), []string{"((a))", "( (a) )", "((a);)", "(\n(a)\n)"}},
		{one(ast.Group, a), []string{"{ a;}", "{ a; }", "{\na\n}", "{\ta;\n\n}", "{ a\n}", "{ a #}\n}"}},
		{node(ast.Group, list(a, b)), []string{"{ a;b;}", "{\na\nb\n}"}},
		{one(ast.Group, one(ast.Sub, a)), []string{"{(a);}", "{ (a)\n}", "{(a)}", "{ (a) }"}},
		{one(ast.Group, one(ast.Group, a)), []string{"{ { a;};}", "{ { a;} }", "{\n{ a\n}\n}"}},
		{node(ast.If, list(a), list(b)), []string{"if a;then b;fi", "if a\nthen b\nfi", "if\na\nthen\nb\nfi", "if\ta ; then\tb ; fi", "if a\n\n\nthen #\nb;\nfi", "if a; #x\nthen b; fi"}},
		{node(ast.If, list(a, b), list(c, d), list(d, c)), []string{"if a;b;then c;d;else d;c;fi", "if a\nb\nthen c\nd\nelse d\nc\nfi"}},
		{node(ast.If, list(a), list(b), list(node(ast.If, list(c), list(d)))), []string{"if a;then b;elif c;then d;fi", "if a;then b;else if c;then d;fi;fi", "if a;then b;else if c;then d;fi fi", "if a\nthen b\n\nelif\nc\nthen\nd\nfi"}},
		{node(ast.If, list(a), list(b), list(node(ast.If, list(c), list(d), list(node(ast.If, list(a, b), list(c), list(d)))))), []string{"if a;then b;elif c;then d;elif a;b;then c;else d;fi"}},
		{one(ast.If, one(ast.Sub, a), one(ast.Sub, b), one(ast.Sub, c)), []string{"if(a);then(b);else(c);fi", "if (a) then (b) else (c) fi", "if(a)then(b)else(c)fi"}},
		{node(ast.If, list(one(ast.If, a, b)), list(c)), []string{"if if a;then b;fi;then c;fi", "if if a;then b;fi then c;fi"}},
		{node(ast.While, list(a), list(b)), []string{"while a;do b;done", "while a\ndo b\ndone", "while\na\n\ndo\nb\ndone", "while a; # do\ndo b; done"}},
		{node(ast.While, list(a, b), list(c, d)), []string{"while a;b;do c;d;done", "while a\nb\ndo c\nd\ndone"}},
		{node(ast.Until, list(a, b), list(c)), []string{"until a;b;do c;done", "until a\nb;\ndo c\ndone"}},
		{one(ast.Until, one(ast.Sub, a), one(ast.Sub, b)), []string{"until(a)do(b)done"}},
		{loop("i", of("a", "b").Words, c), []string{"for i in a b;do c;done", "for i in a b\ndo c\ndone", "for\ti\tin\ta\tb\t;\n\ndo c; done", "for i\n\nin a b\n#\n\ndo\nc\ndone", "for i #in\n in \\\n a \\\n b; do c; done", "for \\\n i \\\n in a b; do c; done"}},
		{loop("i", nil, a, b), []string{"for i in;do a;b;done", "for i in\ndo a\nb\ndone", "for i in ;\ndo a;b;done", "for i in #\ndo a;b;done"}},
		{loop("i", [][]ast.Part{word(inQuotes(param("@")))}, a), []string{"for i;do a;done", "for i\ndo a;done", "for i do a;done", "for i\n\n do a;done", "for i ; do a;done", "for i;\n\ndo a;done", "for i\n;do a;done", "for i in \"$@\";do a;done"}},
		{loop("if", of("do", "done", "if", "in").Words, a), []string{"for if in do done if in;do a;done"}},
		{loop("in", of("in").Words, a), []string{"for in in in;do a;done"}},
		{loop("_9", [][]ast.Part{word(bare("a")), word(quoted("b c"), param("x")), word(quoted("{"))}, a), []string{"for _9 in a 'b c'$x {;do a;done"}},
		{choice(word(bare("a"))), []string{"case a in esac", "case a in\nesac", "case a\nin\n\nesac", "case a\n\n in #\n esac", "case a \\\n in \\\n esac"}},
		{choice(word(bare("in"))), []string{"case in in esac", "case in\nin\nesac"}},
		{choice(word(bare("esac")), arm(of("esac").Words)), []string{"case esac in (esac)esac", "case esac in ( esac ) ;; esac"}},
		{choice(word(param("x"), quoted(""), bare("a")), arm(of("b").Words, c)), []string{"case $x\"\"a in b) c;; esac"}},
		{choice(word(bare("a")), arm(of("b").Words, c)), []string{"case a in b) c;; esac", "case a in b)c;;esac", "case a in(b)c;;esac", "case a in b ) c\nesac", "case a in (b) c; esac", "case a in\nb)\nc\n;;\nesac", "case a in b) c; ;;\n\nesac", "case a in (b)\n\n c ;; #\n esac", "case a in ( b) c\n;; esac"}},
		{choice(word(bare("a")), arm(of("b").Words, one(ast.Sub, c))), []string{"case a in b)(c)esac", "case a in b) (c) esac", "case a in b)(c);;esac"}},
		{choice(word(bare("a")), arm(of("b").Words), arm(of("*").Words, c, d), arm(of("if", "in").Words)), []string{"case a in b) ;; *) c;d;; if|in) esac", "case a in b);;*)c\nd\n;;if | in);;esac", "case a in (b);;(*)c;d;;\n(if|in)\n;;\nesac"}},
		{choice(word(bare("a")), arm([][]ast.Part{word(bare("[!a]")), word(quoted("b c"), bare("*")), word(inQuotes(param("x"))), word(bare("esac"))})), []string{"case a in [!a]|'b c'*|\"$x\"|esac) esac", "case a in ( [!a] | \\b\\ \\c* |\\\n \"${x}\" |esac ) ;; esac"}},
		{choice(word(bare("a")), arm(of("b").Words, choice(word(bare("c")), arm(of("d").Words)))), []string{"case a in b) case c in d) esac esac", "case a in b) case c in d) ;; esac ;; esac", "case a in b) case c in d) esac;esac"}},
		{function("f", one(ast.Group, a)), []string{"f(){ a;}", "f() { a; }", "f ( ) {\na\n}", "f()\n\n{ a; }", "f\\\n()#\n\\\n{ a; }", "\\\nf\t(\\\n) { a; }"}},
		{function("f", one(ast.Sub, a)), []string{"f()(a)", "f ( )\n(a)", "f() ( a )"}},
		{function("ab_1", one(ast.If, a, b)), []string{"ab_1()if a;then b;fi", "a\\\nb_1() if a; then b; fi", "ab_1()\nif a\nthen b\nfi"}},
		{function("f", one(ast.While, a, b)), []string{"f()while a;do b;done"}},
		{function("f", one(ast.Until, a, b)), []string{"f()until a;do b;done"}},
		{function("f", loop("i", of("b").Words, a)), []string{"f()for i in b;do a;done"}},
		{function("f", choice(word(bare("a")))), []string{"f()case a in esac"}},
		{function("f", one(ast.Group, function("g", one(ast.Group, a)))), []string{"f() { g() { a; }; }", "f() { g() { a; } }"}},
	} {
		for _, s := range x.said {
			checkParse(t, s, x.n)
			checkParse(t, "a;"+s+"\n b", a, x.n, b)
			checkParse(t, s+"|a", one(ast.Pipe, x.n, a))
			checkParse(t, "a&&! "+s+"||a", one(ast.Or, one(ast.And, a, one(ast.Not, x.n)), a))
			checkParse(t, "{ "+s+"\n}", one(ast.Group, x.n))
			checkParse(t, "("+s+")", one(ast.Sub, x.n))
			checkParse(t, "a \"$( "+s+")\"", saying(word(bare("a")), word(inQuotes(cmd(x.n)))))
			checkParse(t, "case a in a) "+s+";;esac", choice(word(bare("a")), arm(of("a").Words, x.n)))
			redirected := with(x.n, to(1, ">", bare("x")), to(0, "<", bare("y")))
			if x.n.Kind == ast.Func {
				redirected = function(x.n.Name, with(x.n.Lists[0][0], to(1, ">", bare("x")), to(0, "<", bare("y"))))
			}
			checkParse(t, s+">x<y", redirected)
			checkParse(t, s+" > x \\\n 0<y;", redirected)
			checkSyntax(t, s+" b")
			checkSyntax(t, s+" >x b")
			checkSyntax(t, s+" 'b'")
			checkSyntax(t, s+" (b)")
			checkSyntax(t, s+" )")
			checkSyntax(t, s+" &")
			checkSyntax(t, s+" ;;")
			checkSyntax(t, s+" fi")
			checkSyntax(t, s+"; }")
			checkSyntax(t, "x=1 "+s)
			checkSyntax(t, ">f "+s)
			checkSyntax(t, "a("+s)
			checkSyntax(t, "("+s)
		}
	}
}

// P15.1: what is no command.
func TestNoCommands(t *testing.T) {
	for _, s := range []string{
		";", ";;", "&", "|", "||", "&&", ")", "(", "<", ">", ";a", "a;;", "a;;b", "a; ;b", ";;a", "\n;", "#\n;", "a &", "a&b", "a & b", "a &\n", "a |", "a ||", "a &&", "a | | b", "a || || b", "a ||| b", "a &&& b", "a && & b", "a |& b", "| a", "&& a", "|| a", "a |;b", "a &&;b", "a\n| b", "a\n&& b", "a | #b",
		"! ", "!", "! ;", "!\na", "! ! a", "! a | ! b", "! | a", "! && a", "!; a", "! !", "! #\na",
		"(", "()", "( )", "(;)", "(a", "(a;", "a)", "(a))", "(a;;)", "(a &)", "( # a )", "(a)(b)", "(a) b", "(a)b", "(a) {", "a (b)", "a(", "a()", "a() b", "()(a)", "(\n)", "(a|)", "(a &&)",
		"{", "}", "{ }", "{ ;}", "{ a", "{ a }", "{ a;", "{ a; } }", "{a;}", "{ a;}}", "{ a;} b", "{\n}", "{ a;; }", "{ a; )", "( a; }", "{(a)}}",
		"if", "if a", "if a;", "if a; then", "if a; then b", "if a; then b;", "if a then b; fi", "if a; then b fi", "if a; fi", "if; then b; fi", "if\nthen b; fi", "if a; then; fi", "if a; then fi", "if a; then\nfi", "if a; then b; else fi", "if a; then b; else", "if a; then b; else; c; fi", "if a; then b; elif; then c; fi", "if a; then b; elif then c; fi", "if a; then b; elif c; fi", "if a; then b; elif c; then fi", "if a; then b; elif c; then d; fi; fi", "if a; then b; else c; elif d; then a; fi", "if a; then b; else c; else d; fi", "if a; do b; fi", "if a; then b; done", "if a; b; fi", "else a; fi", "then a; fi", "elif a; then b; fi", "if a; then b; fi fi", "if a; then (b; fi)", "(if a; then b); fi",
		"while", "while a", "while a; do", "while a; do b", "while a; do b;", "while a; done", "while do b; done", "while; do b; done", "while a; do done", "while a; do; b; done", "while a do b; done", "while a; do b done", "while a; then b; done", "while a; do b; fi", "until", "until a; do done", "until do a; done", "until a; do b; fi", "do a; done", "done", "until a; b; done",
		"for", "for;", "for\ni in a; do b; done", "for i", "for i in", "for i in a", "for i in a;", "for i in a; b", "for i in a b", "for i in a; do", "for i in a; do done", "for i in a; do b", "for i in a; do b; fi", "for i in a do b; done", "for 1 in a; do b; done", "for a-b in c; do d; done", "for 'i' in a; do b; done", "for \\i in a; do b; done", "for $i in a; do b; done", "for i' ' in a; do b; done", "for i$x in a; do b; done", "for i#x in a; do b; done", "for i= in a; do b; done", "for i a; do b; done", "for a b; do c; done", "for i on a; do b; done", "for i 'in' a; do b; done", "for i in\\\n a; do b; done", "for i\\\n in a; do b; done", "for i inn a; do b; done", "for i in a & do b; done", "for i in a | do b; done", "for i in a >x; do b; done", "for i in a (b); do c; done", "for i in a;; do b; done", "for i;; do b; done", "for i; ; do b; done", "for i in a; ; do b; done", "for i; in a; do b; done", "for i in a; { b; }", "for i in do b; done", "for (i in a; do b; done", "for i() { a; }", "for i in a; do b; done c",
		"case", "case a", "case a in", "case in esac", "case a esac", "case a; in esac", "case a b in esac", "case\na in esac", "case a in b", "case a in b)", "case a in b) c", "case a in b) c;", "case a in b) c;;", "case a in b c) d;; esac", "case a in b) c;; d esac", "case a in ) c;; esac", "case a in () c;; esac", "case a in (b c;; esac", "case a in b|) c;; esac", "case a in |b) c;; esac", "case a in b||c) d;; esac", "case a in b|c d) e;; esac", "case a in b&c) d;; esac", "case a in ((b) c;; esac", "case a in b)) c;; esac", "case a in b) c;;; esac", "case a in b) ;; ;; esac", "case a in ;; esac", "case a in b) c esac", "case a in b); c;; esac", "case a in b) c & esac", "case a in b) c) d;; esac", "case a in b) c; d) e;; esac", "case a in esac) b;; esac", "case a in b\n) c;; esac", "case a in (\nb) c;; esac", "case a in b|\nc) d;; esac", "case a in b) c;; done", "case a in b) c; fi", "case a in b) }; esac", "case a in b;; esac", "case a in esac b", "case a inn esac", "case a 'in' esac", "case a in <x) b;; esac", "case a in b >x) c;; esac", "case a >x in esac", "case \"\\", "case a\\\n\n(", "case # a\nin esac", "case \\\n in esac",
		"f(", "f( a", "f(a) { b; }", "f() a", "f()", "f();", "f()\n", "f() ;{ a; }", "f() {", "f() { }", "f() {a;}", "f() }", "f() fi", "f() ! { a; }", "f() g() { a; }", "f(\n) { a; }", "f() >x { a; }", "f() x=1 { a; }", "f() && a", "f()()", "f() $(a)", "f() 'a'", "'f'() { a; }", "\\f() { a; }", "f''() { a; }", "$f() { a; }", "f$x() { a; }", "1() { a; }", "1f() { a; }", "a-b() { c; }", "a.b() { c; }", "x=1() { a; }", "x=() { a; }", "x= f() { a; }", ">x f() { a; }", "f >x () { a; }", "f g() { a; }", "f() { a; } b", "f() { a; }()", "{f() { a; }", "() { a; }", "f())", "a=(b)",
	} {
		checkSyntax(t, s)
		checkSyntax(t, "a; b\n"+s)
		checkSyntax(t, "a && "+s)
		checkSyntax(t, "a | "+s)
		checkSyntax(t, "case a in a) "+s)
		if strings.Count(s, ")") <= strings.Count(s, "(") {
			checkSyntax(t, "( "+s)
			checkSyntax(t, "a $( "+s)
		}
	}
}

// P15.1: redirections, ahead of words, among them, and behind.
func TestRedirections(t *testing.T) {
	q := inQuotes
	none := ast.Node{Kind: ast.Simple}
	for _, op := range []string{"<", ">", ">>", "<>", ">|", "<&", ">&"} {
		fd := 1
		if op[0] == '<' {
			fd = 0
		}
		checkParse(t, op+"x", with(none, to(fd, op, bare("x"))))
		checkParse(t, op+" x", with(none, to(fd, op, bare("x"))))
		checkParse(t, "a"+op+"\t\\\n'x'b", with(of("a"), to(fd, op, quoted("x"), bare("b"))))
		checkParse(t, "a "+op+"x b "+op+"$y"+op+"-", with(of("a", "b"), to(fd, op, bare("x")), to(fd, op, param("y")), to(fd, op, bare("-"))))
		checkParse(t, "(a)"+op+"\"$(b)\"", with(one(ast.Sub, of("a")), to(fd, op, q(cmd(of("b"))))))
		for digit := range 10 {
			d := strconv.Itoa(digit)
			checkParse(t, d+op+"x", with(none, to(digit, op, bare("x"))))
			checkParse(t, "\\\n"+d+op+" 1", with(none, to(digit, op, bare("1"))))
			checkParse(t, "a "+d+op+"x", with(of("a"), to(digit, op, bare("x"))))
			checkParse(t, "a"+d+op+"x", with(of("a"+d), to(fd, op, bare("x"))))
			checkParse(t, "a "+d+" "+op+"x", with(of("a", d), to(fd, op, bare("x"))))
			checkParse(t, "a 1"+d+op+"x", with(of("a", "1"+d), to(fd, op, bare("x"))))
			checkParse(t, "a "+d+"\\\n"+op+"x", with(of("a", d), to(fd, op, bare("x"))))
			checkParse(t, "a \\"+d+op+"x", with(saying(word(bare("a")), word(quoted(d))), to(fd, op, bare("x"))))
			checkParse(t, "a "+op+"2"+d+op+"x", with(of("a"), to(fd, op, bare("2"+d)), to(fd, op, bare("x"))))
			checkParse(t, "(a)"+d+op+"x", with(one(ast.Sub, of("a")), to(digit, op, bare("x"))))
		}
		for _, s := range []string{"", " ", ";", "; b", ")", "\n", "\nx", " #x", "\\\n", "`", " <x", " >x", " (a)", " |x", " &x", " )"} {
			checkSyntax(t, op+s)
			checkSyntax(t, "a "+op+s)
			checkSyntax(t, "a 2"+op+s)
			checkSyntax(t, "(a)"+op+s)
		}
	}
	checkParse(t, ">x<y>>z", with(none, to(1, ">", bare("x")), to(0, "<", bare("y")), to(1, ">>", bare("z"))))
	checkParse(t, "a 2>&1>x", with(of("a"), to(2, ">&", bare("1")), to(1, ">", bare("x"))))
	checkParse(t, ">x a=b", with(setting("a", bare("b")), to(1, ">", bare("x"))))
	for _, s := range []string{">>>x", "<<<x", ">>|x", "<>>x", "><x", "<|x", ">&>x", "a >", "a <x <", "2>", "a 2>", "> >x", ">&-&", "<<", "a <<", "a << ;"} {
		checkSyntax(t, s)
	}
}

// P15.1: here-documents, where they begin and end.
func TestDocuments(t *testing.T) {
	q := inQuotes
	a, b := of("a"), of("b")
	lit := func(s string) ast.Redir { return doc(0, "E", quoted(s)) }
	for _, x := range []struct {
		s string
		r ast.Redir
	}{
		{"<<E\nE\n", doc(0, "E")}, {"<<E\nE", doc(0, "E")}, {"<<E\nx\nE", lit("x\n")}, {"<<E\nx y\n\n\nE\n", lit("x y\n\n\n")}, {"<< E\nx\nE\n", lit("x\n")}, {"<<\\\n\tE #\nx\nE\n", lit("x\n")}, {"7<<E\nx\nE\n", doc(7, "E", quoted("x\n"))}, {"0<<if\nx\nif\n", doc(0, "if", quoted("x\n"))}, {"<<E_1\nE\nE_1\n", doc(0, "E_1", quoted("E\n"))},
		{"<<E\n E\nE \nEE\n\tE\n\\E\n'E'\nE\n", lit(" E\nE \nEE\n\tE\n\\E\n'E'\n")}, {"<<E\n\"a\" 'b' #c;&|()<>{}\xff\nE\n", lit("\"a\" 'b' #c;&|()<>{}\xff\n")},
		{"<<E\n\\$x \\` \\\\ \\a \\\" \\' \\}\nE\n", lit("$x ` \\ \\a \\\" \\' \\}\n")}, {"<<E\na\\\nb\\\n\\\nc\nE\n", lit("abc\n")}, {"<<E\n\\\nE\n", doc(0, "E")}, {"<<E\n\\\n\\\nE\n", doc(0, "E")}, {"<<E\nx\n\\\nE\n", lit("x\n")}, {"<<E\n\\\\\nE\n", lit("\\\n")}, {"<<E\n$ $. $\n$\nE\n", lit("$ $. $\n$\n")}, {"<<E\n$\"$'$\\$\nE\n", lit("$\"$'$$\n")},
		{"<<E\n$x\nE\n", doc(0, "E", q(param("x")), quoted("\n"))}, {"<<E\na${x}b$1c$@\nE\n", doc(0, "E", quoted("a"), q(param("x")), quoted("b"), q(param("1")), quoted("c"), q(param("@")), quoted("\n"))}, {"<<E\n$10$\\x\n${#}${10}$$\nE\n", doc(0, "E", q(param("1")), quoted("0$\\x\n"), q(param("#")), q(param("10")), q(param("$")), quoted("\n"))}, {"<<E\n$x\\\ny\nE\n", doc(0, "E", q(param("x")), quoted("y\n"))}, {"<<E\n\"$x\"\nE\n", doc(0, "E", quoted("\""), q(param("x")), quoted("\"\n"))},
		{"<<E\n$((1 + (2)))$(())\nE\n", doc(0, "E", q(sum("1 + (2)")), q(sum("")), quoted("\n"))}, {"<<E\n$E\nE\n", doc(0, "E", q(param("E")), quoted("\n"))}, {"<<E\nE$x\nE\n", doc(0, "E", quoted("E"), q(param("x")), quoted("\n"))},
		{"<<'E'\n$x ${y} $(z) `a` \\\n\\\\ \\$ \"'\nE\n", lit("$x ${y} $(z) `a` \\\n\\\\ \\$ \"'\n")}, {"<<\"E\"\n$x\nE\n", lit("$x\n")}, {"<<\\E\n$x\nE\n", lit("$x\n")}, {"<<E''\n$x\nE\n", lit("$x\n")}, {"<<''E\n$x\nE\n", lit("$x\n")}, {"<<'E'\nE\n", doc(0, "E")}, {"<<'E'\nE", doc(0, "E")}, {"<<'E'\n\\\nE\n", lit("\\\n")}, {"<<'E'\n${x\nE\n", lit("${x\n")}, {"<<'E'\n\n\nE\n", lit("\n\n")}, {"<<\"\\\nE\"\n`\nE\n", lit("`\n")},
		{"<<E\\\nF\nE\nEF\n", doc(0, "EF", quoted("E\n"))}, {"<<E'F'\n$x\nEF\n", doc(0, "EF", quoted("$x\n"))},
		{"<<-E\n\tx\n\t\ty\tz\n z\n\tE\n", lit("x\ny\tz\n z\n")}, {"<<-E\n\t\n\t\tE", lit("\n")}, {"<<-E\nE\n", doc(0, "E")}, {"<<-'E'\n\t$x\n\t\\\n\tE\n", lit("$x\n\\\n")}, {"<<- E\n\t$x\n\tE\n", doc(0, "E", q(param("x")), quoted("\n"))}, {"<<-E\n\ta\\\n\tb\n\tE\n", lit("ab\n")}, {"3<<-E\n\t E\n\t\tE\n", doc(3, "E", quoted(" E\n"))}, {"<<-E\n\\\t\n\t\\\t\nE\n", lit("\\\t\n\\\t\n")},
		{"<<E\n\tE\n\tx\nE\n", lit("\tE\n\tx\n")},
	} {
		checkParse(t, x.s, with(ast.Node{Kind: ast.Simple}, x.r))
		checkParse(t, "a "+x.s, with(a, x.r))
		end := ""
		if !strings.HasSuffix(x.s, "\n") {
			end = "\n"
		}
		checkParse(t, "\n\na; b "+x.s+end+" b\n", a, with(b, x.r), b)
		checkParse(t, "(a)"+x.s, with(one(ast.Sub, a), x.r))
		checkParse(t, "a \"$(b "+x.s+end+")\"", saying(word(bare("a")), word(q(cmd(with(b, x.r))))))
		checkParse(t, "f() { a; } "+x.s, function("f", with(one(ast.Group, a), x.r)))
	}
	e, f := lit("1\n"), doc(3, "F", q(param("x")), quoted("\n"))
	const eText, fText = "1\nE\n", "$x\nF\n"
	checkParse(t, "a <<E >x 3<<F b\n"+eText+fText+"b", with(of("a", "b"), e, to(1, ">", bare("x")), f), b)
	checkParse(t, "a <<E;b 3<<F;a\n"+eText+fText+"b", with(a, e), with(b, f), a, b)
	checkParse(t, "a <<E|b 3<<F&&\n"+eText+fText+"a", one(ast.And, one(ast.Pipe, with(a, e), with(b, f)), a))
	checkParse(t, "a <<E|\n"+eText+"\nb 3<<F\n"+fText, one(ast.Pipe, with(a, e), with(b, f)))
	checkParse(t, "a <<E # <<F\n"+eText, with(a, e))
	checkParse(t, "a <<E \\\nb\n"+eText, with(of("a", "b"), e))
	checkParse(t, "a <<E 'b\nE\n'\n"+eText, with(saying(word(bare("a")), word(quoted("b\nE\n"))), e))
	checkParse(t, "a <<E \"b\nE\n\" $((1\n))\n"+eText, with(saying(word(bare("a")), word(quoted("b\nE\n")), word(sum("1\n"))), e))
	checkParse(t, "a <<E $(b\n) >x\n"+eText, with(saying(word(bare("a")), word(cmd(b))), e, to(1, ">", bare("x"))))
	checkParse(t, "a <<E $(b 3<<F\n"+fText+") \n"+eText, with(saying(word(bare("a")), word(cmd(with(b, f)))), e))
	checkParse(t, "a <<E ${x-$(b 3<<F >$(b <<E\n"+eText+")\n"+fText+")}\n"+eText, with(saying(word(bare("a")), word(op("x", "-", cmd(with(b, f, to(1, ">", cmd(with(b, e)))))))), e))
	checkParse(t, "(a <<E)\n"+eText, one(ast.Sub, with(a, e)))
	checkParse(t, "(a <<E;b)3<<F\n"+eText+fText, with(node(ast.Sub, list(with(a, e), b)), f))
	checkParse(t, "{ a <<E\n"+eText+"} 3<<F <<E\n"+fText+eText, with(one(ast.Group, with(a, e)), f, e))
	checkParse(t, "a <<E|if b\n"+eText+"then b 3<<F;fi;a\n"+fText, one(ast.Pipe, with(a, e), one(ast.If, b, with(b, f))), a)
	checkParse(t, "a <<E|for i\n"+eText+"in a\ndo b;done", one(ast.Pipe, with(a, e), loop("i", a.Words, b)))
	checkParse(t, "a <<E|for i in a\n"+eText+"do b;done", one(ast.Pipe, with(a, e), loop("i", a.Words, b)))
	checkParse(t, "a <<E|for i in a;\n"+eText+"do b;done", one(ast.Pipe, with(a, e), loop("i", a.Words, b)))
	checkParse(t, "a <<E|case a\n"+eText+"in b);;esac", one(ast.Pipe, with(a, e), choice(word(bare("a")), arm(b.Words))))
	checkParse(t, "a <<E|case a in\n"+eText+"b);;esac", one(ast.Pipe, with(a, e), choice(word(bare("a")), arm(b.Words))))
	checkParse(t, "a <<E|case a in b)\n"+eText+";;\nesac", one(ast.Pipe, with(a, e), choice(word(bare("a")), arm(b.Words))))
	checkParse(t, "a <<E|case a in b) b 3<<F;;\n"+eText+fText+"esac", one(ast.Pipe, with(a, e), choice(word(bare("a")), arm(b.Words, with(b, f)))))
	checkParse(t, "a <<E|f()\n"+eText+"(b)", one(ast.Pipe, with(a, e), function("f", one(ast.Sub, b))))
	checkParse(t, "while a <<E\n"+eText+"do b 3<<F\n"+fText+"done <<E\n"+eText, with(one(ast.While, with(a, e), with(b, f)), e))
	checkParse(t, "a <<E <<E <<-E\n"+eText+eText+"\tE", with(a, e, e, doc(0, "E")))
	checkParse(t, "x=1 <<E y=\n"+eText, with(ast.Node{Kind: ast.Simple, Assigns: append(setting("x", bare("1")).Assigns, setting("y").Assigns...)}, e))
	checkParse(t, "a $(b <<E\n"+eText+")", saying(word(bare("a")), word(cmd(with(b, e)))))
	checkParse(t, "a $(b <<E\nE\n\n)", saying(word(bare("a")), word(cmd(with(b, doc(0, "E"))))))
	for _, s := range []string{
		"<<E", "<<E\n", "<<E\nx", "<<E\nx\n", "<<E\nEE", "<<E\n E\n", "<<E\nE ", "<<E\n\tE\n", "<<E #\n", "<<E;E\n", "<<E\\\nE\n", "<<E \\\nE", "a <<E <<F\nE\n", "a <<E <<F\nF\nE\n", "<<-E\n E\n", "<<'E'\nx\n", "(a <<E)", "(a <<E\n)\nE)", "$(a <<E)\nE\n", "a $(b <<E\n)\nE\n", "a \"$(b <<E)\"\nE\n", "a <<E $(b\nE\n)", "a <<E 'x\nE\n'", "a <<E |", "{ a <<E; }", "f() { a; } <<E",
		"<<$x\n$x\n", "<<a$x\na$x\n", "<<$(E)\nE\n", "<<$((1))\n1\n", "<<\"$x\"\n$x\n", "<<${x}\n${x}\n", "<<''\n\n", "<<1\n1\n", "<<a-b\na-b\n", "<<'a b'\na b\n", "<<$\n$\n", "<<*\n*\n", "<<{\n{\n", "<<\"E\n\"\nE\n", "<<é\né\n", "<<a.\na.\n", "<<- -E\n-E\n", "<<--E\n-E\n", "<<~E\n~E\n", "<<`E`\nE\n", "<<E\x00\nE\x00\n", "<<;\n;\n", "<<#E\nE\n", "<<\nE\nE\n", "<<<E\nE\n", "<< <E\nE\n", "<<(E)\nE\n",
		"<<E\n`\nE\n", "<<E\n`a`\nE\n", "<<E\n\\\\`\nE\n", "<<E\n$(a)\nE\n", "<<E\n$(\nE\n", "<<E\n$()\nE\n", "<<E\n${x-}\nE\n", "<<E\n${x:-a}\nE\n", "<<E\n${#x}\nE\n", "<<E\n${x%%a}\nE\n", "<<E\n${x\nE\n", "<<E\n${}\nE\n", "<<E\n${x }\nE\n", "<<E\n${x\\\n}\nE\n", "<<E\n${01}\nE\n", "<<E\n${x-`}\nE\n", "<<E\n$((1\n))\nE\n", "<<E\n$((\nE\n))\nE\n", "<<E\n$((1)\nE\n", "<<E\n$((1\\\n))\nE\n", "<<E\n$((;))\nE\n", "<<E\n$((\nE\n",
		"<<E\n\x00\nE\n", "<<'E'\n\x00\nE\n", "<<E\na\\\x00\nE\n", "<<-E\n\t\x00\nE\n",
		"<<E\na\\\nE\n", "<<E\n$x\\\nE\n", "<<E\na\n\\\nb\\\nE\n", "<<-E\n\ta\\\n\tE\n", "<<EF\nE\\\nF\nEF\n", "<<EF\nx\nE\\\n\\\nF\ny\nEF\n", "<<EF\n$x\nE\\\nF\nEF\n", "<<EF\n\\\nE\\\nF\n$x\nEF\n", "<<-EF\n\tE\\\n\tF\n\tEF\n",
	} {
		checkSyntax(t, s)
		checkSyntax(t, "a "+s)
		checkSyntax(t, "a;"+s+"b")
		checkSyntax(t, "a $("+s)
		checkSyntax(t, "if a; then b "+s)
	}
}

// P15.1: each byte in a word, as it is and quoted in all ways, and in a remark.
func TestBytes(t *testing.T) {
	check := func(script string, wrong bool, w ...ast.Part) {
		t.Helper()
		if wrong {
			checkSyntax(t, "- "+script)
			return
		}
		want := of("-")
		if len(w) > 0 {
			want.Words = append(want.Words, w)
		}
		checkParse(t, "- "+script, want)
	}
	for c := range 256 {
		s := string([]byte{byte(c)})
		is := func(any string) bool { return strings.Contains(any, s) }
		if s == "\n" {
			check("\\\n", false)
			check("\"\\\n\"", false, quoted(""))
		} else {
			check("\\"+s, c == 0, quoted(s))
			if is("$`\"\\") {
				check("\"\\"+s+"\"", false, quoted(s))
			} else {
				check("\"\\"+s+"\"", c == 0, quoted("\\"+s))
			}
			checkParse(t, "a #"+s+s+"\nb", of("a"), of("b"))
			checkParse(t, "#"+s+"\\\nb", of("b"))
		}
		check("'"+s+"'", is("\x00'"), quoted(s))
		check("\""+s+"\"", is("\x00\"`\\"), quoted(s))
		switch {
		case is(" \t\n;#"):
			check(s, false)
		case ast.Bare(byte(c)):
			check(s, false, bare(s))
			check("a"+s+"a", false, bare("a"+s+"a"))
		default:
			check(s, is("\x00'\"`\\&|<>()"), quoted(s))
		}
	}
}
