package parse

import (
	"math/rand"
	"strings"
	"testing"

	"seabag/api"
	"seabag/ast"
)

// ways are how one thing is open within others: @ stands where something opens, ^ where something opens that ~ closes, # where the next stands.
var ways = []string{
	"@(#)", "@( a;a||#\n)", "@{ #;}", "@{\n#\n}", "@if #;then a;fi", "@if a;then #;fi", "@if a;then a;else #;fi", "@if a;then a;@elif #;then a;fi", "@if a;then a;@elif a;then #\nfi", "@if a;then a;@elif a;then a;else #;fi",
	"@while #;do a;done", "@while a;do #;done", "@until #;do a;done", "@until a;do #;done", "@for i in a;do #;done", "@for i;do #;done", "@for i in $(@ #);do a;done", "@for i in a \"${x-@$(@ #)}\";do a;done",
	"@case a in a) #;;esac", "@case a in b);;a) #\nesac", "@case \"$(@ #)\" in a) a;;esac", "@case a in (b|$(@ #)) a;;esac", "f@() @{ #;}", "f @(\t)\n@(#)", "f@()@if a;then #;fi", "@! @(#)", "@! a|@{ #;}", "@! a $(@ #)",
	"a $(@ #)", "a \"b$(@ #)\"", "x=$(@\n#\n)", "a >$(@ #)", "a ${x:-@$(@ #)}", "a \"${x%@${y%%@a$(@ #)}}\"", "${1-@${2=@${3+@$(@ #)}}}", "a && #", "a || #", "a;#;a",
	"^(a~);#", "^(a~)>$(@ #)", "^{ a;~}|@(#)", "^if a;then a;~fi&&@(#)", "a $(^a~)$(@ #)", "a ${x-^a~}\"$(^~)$(@ #)\"", "^! a~&&#", "f^()^{ a;~~};#", "^(^(^(a~)~)~);#", "^if a;then a;^elif a;then a;~~fi;#", "^for i in a;do a;~done >$(@ #)", "^case a in a) a;~esac;#", "a $((1+(2)))$(@ #)", "a <<E\n$x\nE\n#", "@{ a <<E;b\n$x\nE\n#;}",
}

// wrongs are what makes no script, from ? on, whatever stands behind, or in, it.
var wrongs = []string{"?`;#", "?;#", "a ?& #", "a ?&;#", "@if a;?fi;#", "@if a;then ?fi;#", "?then #", "@! ?! #", "'a' ?('$( #)", "$((a?.b));#", "${x?!};#", "${x-@a? b};#", "a <<?${x-$( #)}\n", "a <<?$( #)", "a <<a\"?$( #)\"", "a <<E\n?$( #)\nE\n", "a <<E\n${x?-$( #)}\nE\n", "a <<E\n${x?+}\nE\n#", "a <<E\na\\\nE\n?#", "f@() ?$( #)", "f@() ?a $( #)", "f@( ?$( #)", "@for ?$( #)", "@for i ?$( #)", "@for i in a;?$( #)", "@case a ?$( #)", "@case a in ?;#", "^(a~) ?$( #)", "^(a~) ?a $( #)", "@{ ?} $( #)", "@(?) $( #)", "$(@a <<E?)$( #)", "a > ?;#", "x=1 if? $( #)", "a ?(#)", "1?() { #;}", "?\x00#", "\"?`\" $( #)", "@case a in a) a;;?;#"}

// marked takes the marks out of a text; it tells where what opens first within as many others as may be, or -1, and how many are open at most.
func marked(s string) (text string, at, most int) {
	var out strings.Builder
	at, open := -1, 0
	for i := range len(s) {
		switch s[i] {
		case '@', '^':
			if open == api.MaxDeep && at < 0 {
				at = out.Len()
			}
			open++
			most = max(most, open)
		case '~':
			open--
		case '?':
		default:
			out.WriteByte(s[i])
		}
	}
	return out.String(), at, most
}

// P15.1: ErrDeep, at the beginning of each thing that would be open within 64 others, of each kind.
func TestOpen(t *testing.T) {
	t.Parallel()
	for _, way := range ways {
		for _, ahead := range []string{"@(#)", "a $(@ #)", "@{ #;}", "@if a;then #;fi", "a ${x-@$(@ #)}"} {
			for n := 60; n < 67; n++ {
				s := "#"
				for _, open, _ := marked(s); open < n; _, _, open = marked(s) {
					s = strings.Replace(s, "#", ahead, 1)
				}
				text, at, most := marked(strings.ReplaceAll(strings.ReplaceAll(s, "#", way), "#", "a"))
				if at >= 0 {
					checkDeep(t, text, at)
					checkDeep(t, "a|a\n\n"+text+"`", at+5)
				} else if l, f := Parse(text, 64); f != (Fault{E: api.ErrDeep}) && (f != Fault{} || !ast.Right(l, 64)) {
					t.Errorf("Parse of %s, of %d that are open: %v", short(text), most, f)
				}
			}
		}
	}
}

// P15.1: the same by chance, and with something wrong ahead of it, or behind.
func TestOpenByChance(t *testing.T) {
	t.Parallel()
	deep, flat := 0, 0
	for seed := range 12000 {
		r := rand.New(rand.NewSource(int64(1504000 + seed)))
		s := "#"
		n := r.Intn(90)
		spoilt := r.Intn(2 * (n + 1))
		for i := range n {
			if i == spoilt {
				s = strings.Replace(s, "#", wrongs[r.Intn(len(wrongs))], 1)
			}
			s = strings.Replace(s, "#", ways[r.Intn(len(ways))], 1)
		}
		s = strings.Replace(s, "#", "a", 1)
		ahead, _, wrong := strings.Cut(s, "?")
		_, early, _ := marked(ahead)
		text, at, _ := marked(s)
		switch {
		case wrong && early < 0:
			checkSyntax(t, text)
			flat++
		case at >= 0:
			checkDeep(t, text, at)
			deep++
		default:
			l, f := Parse(text, 64)
			if f.At != 0 || f.E != api.OK && f.E != api.ErrDeep {
				t.Errorf("Parse of %s: %v", short(text), f)
			}
			if f.E == api.OK {
				checkParse(t, text, l...)
				checkAgain(t, text, l)
			}
		}
		if t.Failed() {
			return
		}
	}
	if deep < 2000 || flat < 2000 {
		t.Error(deep, "too deep,", flat, "wrong")
	}
}

// P15.1: what is wrong, alone and within others.
func TestWrongAlone(t *testing.T) {
	for _, x := range wrongs {
		for _, way := range append(ways, "#") {
			for _, within := range []string{"a", "@(a)", strings.Repeat("(", 70)} {
				text, _, _ := marked(strings.ReplaceAll(strings.ReplaceAll(way, "#", x), "#", within))
				checkSyntax(t, text)
			}
		}
	}
}

// P15.1: ErrDeep at the && or || of one command list ahead of which 64 stand; each list has its own.
func TestOpenLists(t *testing.T) {
	t.Parallel()
	r := rand.New(rand.NewSource(1505))
	signs64 := strings.Repeat("&&a", 64)
	for range 300 {
		s := "a"
		var places []int
		for range 60 + r.Intn(10) {
			s += pick(r, r.Intn(2), " ", "\t", " \\\n")
			places = append(places, len(s))
			s += pick(r, 1, "&&", "||") + pick(r, r.Intn(2), "\n", " ", "#(((\n", "\n\n", "\\\n") + pick(r, 1, "a", "! a", "a|a", "(a)", "{ a&&a;}", "f() (a||a)", "(a"+strings.Repeat("&&a", 40)+")")
		}
		for _, x := range []struct {
			ahead, behind string
			more          int // signs ahead in the same list
		}{{"", "", 0}, {"(", ")", 0}, {"a&&a;", "", 0}, {"a&&(", ")||a", 0}, {"if a&&a;then ", ";fi", 0}, {"a" + signs64 + "\n", ";a", 0}, {"a" + signs64 + ";", "\na" + signs64, 0}, {"a&&", "", 1}, {"a $(a&&a||a|a&&", ")", 3}, {"(a" + signs64 + ")||\n", "", 1}} {
			if i := 64 - x.more; len(places) > i {
				checkDeep(t, x.ahead+s+x.behind, len(x.ahead)+places[i])
			} else if l, f := Parse(x.ahead+s+x.behind, 64); f != (Fault{E: api.ErrDeep}) && (f != Fault{} || !ast.Right(l, 64)) {
				t.Errorf("Parse of %s: %v", short(x.ahead+s+x.behind), f)
			}
		}
	}
	checkDeep(t, "a"+strings.Repeat("&&a", 65), 193)
	checkDeep(t, "a= "+strings.Repeat("&& a= ", 64), 0)
	checkDeep(t, "(a= "+strings.Repeat("&& a= ", 63)+")", 0)
	for _, sign := range []string{"&&", "||"} {
		want := setting("a")
		for range 63 {
			want = one(map[string]int{"&&": ast.And, "||": ast.Or}[sign], want, setting("a"))
		}
		checkParse(t, "a="+strings.Repeat(sign+"a=", 63), want)
		checkParse(t, "a="+strings.Repeat(sign+"\na=", 63)+"\na= "+strings.Repeat(sign+" a= ", 63), want, want)
	}
}

// P15.1: the levels of layer 14, at each limit, of commands that have them, however few are open.
func TestLevels(t *testing.T) {
	flat := setting("a")
	for i, in := range []struct {
		step int
		of   func(ast.Node) ast.Node
	}{
		{1, func(n ast.Node) ast.Node { return one(ast.Sub, n) }},
		{1, func(n ast.Node) ast.Node { return node(ast.Group, list(flat, n)) }},
		{1, func(n ast.Node) ast.Node { return one(ast.If, flat, flat, n) }},
		{1, func(n ast.Node) ast.Node { return loop("i", nil, n) }},
		{1, func(n ast.Node) ast.Node { return one(ast.Or, n, flat) }},
		{2, func(n ast.Node) ast.Node { return one(ast.Not, one(ast.While, flat, n)) }},
		{2, func(n ast.Node) ast.Node { return one(ast.Pipe, flat, one(ast.Until, n, flat)) }},
		{2, func(n ast.Node) ast.Node { return function("f", one(ast.Group, n)) }},
		{2, func(n ast.Node) ast.Node { return setting("x", cmd(n)) }},
		{2, func(n ast.Node) ast.Node { return with(ast.Node{Kind: ast.Simple}, to(1, ">", inQuotes(cmd(n)))) }},
		{2, func(n ast.Node) ast.Node { return choice(word(cmd(n)), arm(of("a").Words)) }},
		{2, func(n ast.Node) ast.Node { return choice(word(bare("a")), arm([][]ast.Part{word(cmd(n))})) }},
		{1, func(n ast.Node) ast.Node { return choice(word(bare("a")), arm(of("a").Words, n)) }},
		{3, func(n ast.Node) ast.Node { return setting("x", op("x", "-", cmd(n))) }},
		{3, func(n ast.Node) ast.Node { return one(ast.And, one(ast.Not, one(ast.Sub, n)), flat) }},
		{4, func(n ast.Node) ast.Node {
			return saying(word(bare("a"), op("y", "%%", inQuotes(op("x", "=", cmd(n))))))
		}},
	} {
		for most := 5; most < 68; most++ {
			n, level := flat, 1
			for ; level+in.step <= most; level += in.step {
				n = in.of(n)
			}
			s := ast.Show(list(n))
			for _, deep := range []int{1, level - 1, level, level + 1, 64} {
				l, f := Parse(s, min(deep, 64))
				want := Fault{}
				if level > min(deep, 64) {
					want.E = api.ErrDeep
				}
				if f.E == api.ErrDeep && level > 64 {
					f.At = 0 // it may be that one more is open than may be
				}
				if f != want || want == (Fault{}) != (len(l) == 1) {
					t.Errorf("%d: Parse of %s, of %d levels, at %d: %v", i, short(s), level, deep, f)
				}
			}
		}
	}
}

// P1, P15.2: whatever stands in a script, Parse ends; and what is read, written, is read again.
func TestAnything(t *testing.T) {
	t.Parallel()
	tokens := strings.Split("a b 1 x= if then elif else fi while until do done for in case esac ! { } ( ) ; ;; & && | || < > << <<- >> <> >| <& >& 2 ' \" \\ $ $( $(( )) ${ ${x- ${#x} $x ` # \x00 \xff % %% := E", " ")
	r := rand.New(rand.NewSource(1506))
	yes := 0
	look := func(s string) {
		l, f := Parse(s, 64)
		if again, g := Parse(s, 64); g != f || ast.Show(again) != ast.Show(l) {
			t.Errorf("Parse of %s isn't always the same", short(s))
		}
		switch {
		case f == Fault{}:
			yes++
			if !ast.Right(l, 64) {
				t.Errorf("Parse of %s: what may not be, %s", short(s), short(ast.Show(l)))
			}
			checkAgain(t, s, l)
		case len(l) > 0 || f.E != api.ErrSyntax && f.E != api.ErrDeep || f.At < 0 || f.At > len(s):
			t.Errorf("Parse of %s: %v, and %d commands", short(s), f, len(l))
		}
	}
	for range 40000 {
		var s strings.Builder
		for range r.Intn(14) {
			s.WriteString(tokens[r.Intn(len(tokens))] + pick(r, 1, " ", "", "\n", ";", "\\\n"))
		}
		look(s.String())
	}
	for seed := range 6000 {
		r := rand.New(rand.NewSource(int64(1507000 + seed)))
		s := (&speller{r: r}).script((&maker{r, 20}).commands(1, 8))
		for range 6 {
			at, end := r.Intn(len(s)+1), 0
			end = min(len(s), at+r.Intn(3))
			look(s[:at])
			look(s[at:])
			look(s[:at] + pick(r, r.Intn(2), tokens...) + s[end:])
			look(s[:at] + string([]byte{byte(r.Intn(256))}) + s[end:])
		}
	}
	if yes < 20000 {
		t.Error("only", yes, "scripts")
	}
}
