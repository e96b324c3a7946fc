package word_test

import (
	"math/rand"
	"reflect"
	"strings"
	"testing"

	"kinetoscope/api"
	"kinetoscope/lexer"
	"kinetoscope/word"
)

type parts []word.Part

func lit(s string) word.Part { return word.Part{Kind: word.Lit, Text: s} }
func quo(s string) word.Part { return word.Part{Kind: word.Quo, Text: s} }
func ari(s string) word.Part { return word.Part{Kind: word.Arith, Text: s} }
func par(s string) word.Part { return word.Part{Kind: word.Param, Text: s} }
func til() word.Part         { return word.Part{Kind: word.Tilde} }

// with is a parameter with what is done with it.
func with(s, op string, l ...word.Part) word.Part {
	return word.Part{Kind: word.Param, Text: s, Op: op, Word: l}
}

// in is a part as it is in a quoted part.
func in(p word.Part) word.Part {
	p.Quoted = true
	return p
}

// same tells whether two rows are of the same parts; none and nil are one.
func same(a, b []word.Part) bool {
	if len(a) != len(b) {
		return false
	}
	for i, p := range a {
		q := b[i]
		if !same(p.Word, q.Word) {
			return false
		}
		p.Word, q.Word = nil, nil
		if !reflect.DeepEqual(p, q) {
			return false
		}
	}
	return true
}

// tells holds of each text that its parts are just those.
func tells(t *testing.T, name string, call func(string) ([]word.Part, api.Errno), texts map[string]parts) {
	t.Helper()
	for s, want := range texts {
		if got, e := call(s); e != api.OK || !same(got, want) {
			t.Errorf("%s(%.90q):\n%+v, error %d; not\n%+v", name, s, got, e, want)
		}
	}
}

// parses holds of each raw word that its parts are just those.
func parses(t *testing.T, texts map[string]parts) {
	t.Helper()
	tells(t, "Parse", word.Parse, texts)
}

// fails holds of each text that it has no parts, but that error.
func fails(t *testing.T, name string, call func(string) ([]word.Part, api.Errno), want api.Errno, texts ...string) {
	t.Helper()
	for _, s := range texts {
		if got, e := call(s); len(got) > 0 || e != want {
			t.Errorf("%s(%.90q): %+v, error %d; not error %d", name, s, got, e, want)
		}
	}
}

// wrong holds of each raw word that it is none.
func wrong(t *testing.T, texts ...string) {
	t.Helper()
	fails(t, "Parse", word.Parse, api.ErrForm, texts...)
}

// braces is s within n braces.
func braces(n int, s string) string {
	return strings.Repeat("${a-", n) + s + strings.Repeat("}", n)
}

// P9.1

func TestKinds(t *testing.T) {
	for i, kind := range []int{word.Lit, word.Quo, word.Param, word.Arith, word.Tilde} {
		if kind != i+1 {
			t.Errorf("kind %d is %d", i+1, kind)
		}
	}
}

func TestExample(t *testing.T) {
	parses(t, map[string]parts{`a"$x"'b'`: {lit("a"), in(par("x")), quo("b")}})
}

func TestBackslashes(t *testing.T) {
	parses(t, map[string]parts{
		`\a`:      {quo("a")},
		`\\`:      {quo(`\`)},
		`\'`:      {quo("'")},
		`\"`:      {quo(`"`)},
		`\$x`:     {quo("$"), lit("x")},
		"\\`":     {quo("`")},
		`\~`:      {quo("~")},
		`\}`:      {quo("}")},
		"\\\n":    {quo("\n")},
		"\\\x00":  {quo("\x00")},
		"\\\xff":  {quo("\xff")},
		"\\é":     {quo("\xc3"), lit("\xa9")},
		`\a\b\c`:  {quo("abc")},
		`a\bc\d`:  {lit("a"), quo("b"), lit("c"), quo("d")},
		`\\\\a`:   {quo(`\\`), lit("a")},
		`\$(a)`:   {quo("$"), lit("(a)")},
		`$\{a}`:   {lit("$"), quo("{"), lit("a}")},
		`\$\{a\}`: {quo("${"), lit("a"), quo("}")},
		`$\((1))`: {lit("$"), quo("("), lit("(1))")},
		`\''a'\'`: {quo("'a'")},
		`\""a"\"`: {quo(`"a"`)},
		`a\ b`:    {lit("a"), quo(" "), lit("b")},
	})
	wrong(t, `\`, `a\`, `\\\`, `'a'\`, `$\`, `${a}\`)
}

func TestSingleQuotes(t *testing.T) {
	parses(t, map[string]parts{
		`''`:               {quo("")},
		`''''`:             {quo("")},
		`'a'`:              {quo("a")},
		`'a b'`:            {quo("a b")},
		`'"'`:              {quo(`"`)},
		`'\'`:              {quo(`\`)},
		`'\'a`:             {quo(`\`), lit("a")},
		"'`$x${y!$(z$((`'": {quo("`$x${y!$(z$((`")},
		`'}'`:              {quo("}")},
		`'~'`:              {quo("~")},
		"'\n\t\x00\xff'":   {quo("\n\t\x00\xff")},
		`'a''b'`:           {quo("ab")},
		`a'b'c`:            {lit("a"), quo("b"), lit("c")},
		`a''b`:             {lit("a"), quo(""), lit("b")},
		`$'a'`:             {lit("$"), quo("a")},
		`'a'"b"\c`:         {quo("abc")},
	})
	wrong(t, `'`, `'a`, `a'b`, `'''`, `'a''`, `"a"'`)
}

func TestQuotedParts(t *testing.T) {
	parses(t, map[string]parts{
		`""`:                  {quo("")},
		`""""`:                {quo("")},
		`"a"`:                 {quo("a")},
		`"a b"`:               {quo("a b")},
		`"a""b"`:              {quo("ab")},
		`a"b"c`:               {lit("a"), quo("b"), lit("c")},
		`a""b`:                {lit("a"), quo(""), lit("b")},
		`"'"`:                 {quo("'")},
		`"'a'"`:               {quo("'a'")},
		`"\""`:                {quo(`"`)},
		`"\\"`:                {quo(`\`)},
		`"\$x"`:               {quo("$x")},
		"\"\\`\"":             {quo("`")},
		`"\a"`:                {quo(`\a`)},
		`"\'"`:                {quo(`\'`)},
		`"\}"`:                {quo(`\}`)},
		`"\ "`:                {quo(`\ `)},
		"\"\\\n\"":            {quo("\\\n")},
		"\"\\\x00\"":          {quo("\\\x00")},
		`"\\\""`:              {quo(`\"`)},
		`"~"`:                 {quo("~")},
		`"}{()"`:              {quo("}{()")},
		"\"\n\t;&|<>#é\xff\"": {quo("\n\t;&|<>#é\xff")},
		`"$"`:                 {quo("$")},
		`"a$"`:                {quo("a$")},
		`"$$"`:                {quo("$$")},
		`"$ a"`:               {quo("$ a")},
		`"$'a'"`:              {quo("$'a'")},
		`"$\a"`:               {quo(`$\a`)},
		`"$\$"`:               {quo("$$")},
		`"$x"`:                {in(par("x"))},
		`"$x$y"`:              {in(par("x")), in(par("y"))},
		`"a$x b"`:             {quo("a"), in(par("x")), quo(" b")},
		`""$x""`:              {quo(""), par("x"), quo("")},
		`"$x"""`:              {in(par("x")), quo("")},
		`"$x"'a'`:             {in(par("x")), quo("a")},
		`$x"$x"$x`:            {par("x"), in(par("x")), par("x")},
		`"${x}"`:              {in(par("x"))},
		`"${#x}"`:             {in(with("x", "len"))},
		`"$((1))"`:            {in(ari("1"))},
		`"$(("))"`:            {in(ari(`"`))},
		`"a"b"c"`:             {quo("a"), lit("b"), quo("c")},
	})
	wrong(t, `"`, `"a`, `a"`, `"""`, `"\"`, `"a\`, `"\`, `"$`, `"$x`, `"${x}`, `"'"'`, "\"`\"", "\"a`b`\"", `"$(a)"`, `"$("`, `"${x"`, `"$((1)"`)
}

func TestParameters(t *testing.T) {
	parses(t, map[string]parts{
		`$x`:        {par("x")},
		`$abc`:      {par("abc")},
		`$_`:        {par("_")},
		`$_a1Z_`:    {par("_a1Z_")},
		`$A`:        {par("A")},
		`$zZ09`:     {par("zZ09")},
		`$x-y`:      {par("x"), lit("-y")},
		`$x$y`:      {par("x"), par("y")},
		`a$x.b`:     {lit("a"), par("x"), lit(".b")},
		`$x'y'`:     {par("x"), quo("y")},
		`$x\y`:      {par("x"), quo("y")},
		`$x[1]`:     {par("x"), lit("[1]")},
		`$x}`:       {par("x"), lit("}")},
		"$x\xff":    {par("x"), lit("\xff")},
		"$xé":       {par("x"), lit("é")},
		`$0`:        {par("0")},
		`$9`:        {par("9")},
		`$12`:       {par("1"), lit("2")},
		`$1a`:       {par("1"), lit("a")},
		`$?`:        {par("?")},
		`$#`:        {par("#")},
		`$@`:        {par("@")},
		`$*`:        {par("*")},
		`$-`:        {par("-")},
		`$??`:       {par("?"), lit("?")},
		`$#x`:       {par("#"), lit("x")},
		`$@$*`:      {par("@"), par("*")},
		`$--`:       {par("-"), lit("-")},
		`"$@"`:      {in(par("@"))},
		`"$12"`:     {in(par("1")), quo("2")},
		`"$x-y"`:    {in(par("x")), quo("-y")},
		`"a$1"b$2c`: {quo("a"), in(par("1")), lit("b"), par("2"), lit("c")},
	})
}

func TestDollars(t *testing.T) {
	for _, c := range []string{"", "$", "/", ":", "=", "+", "%", "!", ".", ",", "~", "^", "[", "]", "}", ")", " ", "\n", ";", "&", "|", "<", ">", "\x00", "\x80", "é"} {
		parses(t, map[string]parts{"$" + c: {lit("$" + c)}, "a$" + c + ".": {lit("a$" + c + ".")}})
	}
}

func TestBraces(t *testing.T) {
	parses(t, map[string]parts{
		`${x}`:      {par("x")},
		`${ab_1}`:   {par("ab_1")},
		`${_}`:      {par("_")},
		`${x}y`:     {par("x"), lit("y")},
		`a${x}${y}`: {lit("a"), par("x"), par("y")},
		`${0}`:      {par("0")},
		`${12}`:     {par("12")},
		`${007}`:    {par("007")},
		`${?}`:      {par("?")},
		`${#}`:      {par("#")},
		`${@}`:      {par("@")},
		`${*}`:      {par("*")},
		`${-}`:      {par("-")},
		`${x}}`:     {par("x"), lit("}")},
		`$${x}`:     {lit("$"), par("x")},
	})
	wrong(t, `${`, `${}`, `${x`, `${12`, `${ x}`, `${x }`, `${1a}`, `${12a}`, `${!}`, `${!x}`, `${$}`, `${$x}`, `${'x'}`, `${"x"}`, `${\x}`, `${x!}`, `${x,}`, `${x[1]}`,
		`${.}`, `${x.}`, `${é}`, `${xé}`, "${\xff}", `${??`, `${@@}`, `${~}`, `${/}`, `${x/a/b}`, `${x^}`, `${x`+"`", "${`}", `${x$y}`, `${x'-'a}`, `${{x}}`, `${x{}}`, `${(x)}`, "${x\n}", `"${"`, `"${x!}"`)
}

func TestLengths(t *testing.T) {
	parses(t, map[string]parts{
		`${#x}`:     {with("x", "len")},
		`${#abc_1}`: {with("abc_1", "len")},
		`${#1}`:     {with("1", "len")},
		`${##}`:     {with("#", "len")},
		`${#?}`:     {with("?", "len")},
		`${#-}`:     {with("-", "len")},
		`${#@}`:     {with("@", "len")},
		`${#*}`:     {with("*", "len")},
		`${#x}a`:    {with("x", "len"), lit("a")},
		// what asks for no length: all is of the parameter #
		`${###}`:   {with("#", "##")},
		`${####}`:  {with("#", "##", lit("#"))},
		`${##a}`:   {with("#", "#", lit("a"))},
		`${##'}'}`: {with("#", "#", quo("}"))},
		`${###a}`:  {with("#", "##", lit("a"))},
		`${#-a}`:   {with("#", "-", lit("a"))},
		`${#--}`:   {with("#", "-", lit("-"))},
		`${#?a}`:   {with("#", "?", lit("a"))},
		`${#??}`:   {with("#", "?", lit("?"))},
		`${#=}`:    {with("#", "=")},
		`${#+}`:    {with("#", "+")},
		`${#%}`:    {with("#", "%")},
		`${#%%}`:   {with("#", "%%")},
		`${#:-}`:   {with("#", ":-")},
		`${#:=1}`:  {with("#", ":=", lit("1"))},
		`${#-$x}`:  {with("#", "-", par("x"))},
	})
	wrong(t, `${#x`, `${#`, `${##`, `${#x-a}`, `${#x:-a}`, `${#12}`, `${#1a}`, `${#x y}`, `${# x}`, `${#!}`, `${#:}`, `${#$x}`, `${#x#}`, `${#@@}`, `${#${x}}`, `${#x!}`)
}

func TestOps(t *testing.T) {
	for _, op := range []string{":-", ":=", ":?", ":+", "%%", "##", "-", "=", "?", "+", "%", "#"} {
		for _, name := range []string{"x", "ab_1", "0", "12", "?", "@", "*", "-"} {
			s := "${" + name + op
			parses(t, map[string]parts{
				s + "}":          {with(name, op)},
				s + "a}":         {with(name, op, lit("a"))},
				s + " a b }c":    {with(name, op, lit(" a b ")), lit("c")},
				s + `'}'"}"\}a}`: {with(name, op, quo("}}}"), lit("a"))},
				"\"" + s + "}\"": {in(with(name, op))},
			})
			wrong(t, s, s+"a", s+"'}'", s+`"}`, s+`\}`, s+"`}", s+"$(a)}")
		}
	}
	parses(t, map[string]parts{
		`${x:--}`:   {with("x", ":-", lit("-"))},
		`${x--}`:    {with("x", "-", lit("-"))},
		`${x-:-}`:   {with("x", "-", lit(":-"))},
		`${x%%%}`:   {with("x", "%%", lit("%"))},
		`${x###}`:   {with("x", "##", lit("#"))},
		`${x%#}`:    {with("x", "%", lit("#"))},
		`${x#%%}`:   {with("x", "#", lit("%%"))},
		`${x==}`:    {with("x", "=", lit("="))},
		`${x??}`:    {with("x", "?", lit("?"))},
		`${x+:+}`:   {with("x", "+", lit(":+"))},
		`${12%}`:    {with("12", "%")},
		`${---}`:    {with("-", "-", lit("-"))},
		`${??}`:     {with("?", "?")},
		`${?:?}`:    {with("?", ":?")},
		`${x-len}`:  {with("x", "-", lit("len"))},
		`${len}`:    {par("len")},
		`${x-'a'b}`: {with("x", "-", quo("a"), lit("b"))},
	})
	wrong(t, `${x:}`, `${x:a}`, `${x:%a}`, `${x:#a}`, `${x::-a}`, `${x: -a}`, `${x -a}`, `${x!-a}`, `${x*a}`, `${x@a}`, `${:-a}`, `${=a}`, `${+}`, `${%}`, `${:}`)
}

func TestWordsOfBraces(t *testing.T) {
	parses(t, map[string]parts{
		`${x-$y}`:          {with("x", "-", par("y"))},
		`${x-a$y'b'}`:      {with("x", "-", lit("a"), par("y"), quo("b"))},
		`${x-"$y"}`:        {with("x", "-", in(par("y")))},
		`"${x-$y}"`:        {in(with("x", "-", par("y")))},
		`"${x-a}"`:         {in(with("x", "-", lit("a")))},
		`"${x-'a'}"`:       {in(with("x", "-", quo("a")))},
		`"${x-"a"}"`:       {in(with("x", "-", quo("a")))},
		`"${x-"$y"z}"`:     {in(with("x", "-", in(par("y")), lit("z")))},
		`"${x-'}'}"`:       {in(with("x", "-", quo("}")))},
		`"a${x-b}c"`:       {quo("a"), in(with("x", "-", lit("b"))), quo("c")},
		`"${x-\a}"`:        {in(with("x", "-", quo("a")))},
		`${x-''}`:          {with("x", "-", quo(""))},
		`${x-""}`:          {with("x", "-", quo(""))},
		`${x-$}`:           {with("x", "-", lit("$"))},
		`${x-"$"}`:         {with("x", "-", quo("$"))},
		`${x-"}"}`:         {with("x", "-", quo("}"))},
		`${x-$((1))}`:      {with("x", "-", ari("1"))},
		`${x-$((}))}`:      {with("x", "-", ari("}"))},
		`${x-{}`:           {with("x", "-", lit("{"))},
		`${x-{a}}`:         {with("x", "-", lit("{a")), lit("}")},
		`${x-(a;b)&|<>}`:   {with("x", "-", lit("(a;b)&|<>"))},
		"${x-\n\t #}":      {with("x", "-", lit("\n\t #"))},
		`${x-${y}}`:        {with("x", "-", par("y"))},
		`${x-a${y-b}c}d`:   {with("x", "-", lit("a"), with("y", "-", lit("b")), lit("c")), lit("d")},
		`${x-"${y-"z"}"}`:  {with("x", "-", in(with("y", "-", quo("z"))))},
		`${x-${#y}${z}}`:   {with("x", "-", with("y", "len"), par("z"))},
		`${x%%"$y"*}`:      {with("x", "%%", in(par("y")), lit("*"))},
		`${x:=a}${y:?'b'}`: {with("x", ":=", lit("a")), with("y", ":?", quo("b"))},
		`a${x-b}c${y-d}e`:  {lit("a"), with("x", "-", lit("b")), lit("c"), with("y", "-", lit("d")), lit("e")},
	})
	wrong(t, `${x-${y}`, `${x-"${y}}`, `${x-'a}`, `${x-$((1)}`, `${x-$(a)}`, "${x-`}", "\"${x-`}\"", `${x-\`, `${x-${!}}`, `"${x-'}"`, `"${x-"}"`)
}

func TestArith(t *testing.T) {
	parses(t, map[string]parts{
		`$(())`:                      {ari("")},
		`$((1))`:                     {ari("1")},
		`$((1+x))`:                   {ari("1+x")},
		`$(( 1 + (2) ))`:             {ari(" 1 + (2) ")},
		`$(((1)))`:                   {ari("(1)")},
		`$(((1)+(2)))`:               {ari("(1)+(2)")},
		`$((()()))`:                  {ari("()()")},
		`$(( ((1)) ))`:               {ari(" ((1)) ")},
		`$((((1))))`:                 {ari("((1))")},
		`$((1)))`:                    {ari("1"), lit(")")},
		`a$((1))b$((2))`:             {lit("a"), ari("1"), lit("b"), ari("2")},
		`$((1))$((2))`:               {ari("1"), ari("2")},
		`"a$((1))b"`:                 {quo("a"), in(ari("1")), quo("b")},
		`$(($x+${y}))`:               {ari("$x+${y}")},
		`$(($((1))))`:                {ari("$((1))")},
		`$(($(1)))`:                  {ari("$(1)")},
		"$((`'\"\\ \n}{$))":          {ari("`'\"\\ \n}{$")},
		`$((\(\)))`:                  {ari(`\(\)`)},
		`$(('()'))`:                  {ari(`'()'`)},
		"$((\x00\xff))":              {ari("\x00\xff")},
		`$((${a-${!))`:               {ari("${a-${!")},
		"$((" + braces(9, "") + "))": {ari(braces(9, ""))},
	})
	wrong(t, `$((`, `$((1`, `$((1)`, `$(()`, `$((1) )`, `$((1)a)`, `$((1)a))`, `$((1)+(2))`, `$((()`, `$((())`, `$(((1))`, `$(('('))`, `$((\(\))`, `$((1)\)`, `"$((1)`, `"$((1)"`)
}

func TestCommands(t *testing.T) {
	wrong(t, "`", "a`", "`a`", "a`b`c", "\"`\"", "\"a`\"", "$`a`", `$(`, `$()`, `$(a)`, `$(a`, `a$(b)c`, `$( (1))`, `"$(a)"`, `$$(a)`, `$(a))`, `$x$(a)`, `${x-$(a)}`, "$(\n(1))")
	parses(t, map[string]parts{
		"\\`a\\`": {quo("`"), lit("a"), quo("`")},
		`'$(a)'`:  {quo("$(a)")},
		`(a)`:     {lit("(a)")},
		`((1))`:   {lit("((1))")},
		`$)`:      {lit("$)")},
		`$x(a)`:   {par("x"), lit("(a)")},
	})
}

func TestTildes(t *testing.T) {
	parses(t, map[string]parts{
		`~`:        {til()},
		`~/`:       {til(), lit("/")},
		`~/x`:      {til(), lit("/x")},
		`~//`:      {til(), lit("//")},
		`~/~`:      {til(), lit("/~")},
		`~/$x`:     {til(), lit("/"), par("x")},
		`~/'a'`:    {til(), lit("/"), quo("a")},
		`~a`:       {lit("~a")},
		`~~`:       {lit("~~")},
		`~~/`:      {lit("~~/")},
		`~+/x`:     {lit("~+/x")},
		`~:`:       {lit("~:")},
		`a~`:       {lit("a~")},
		`a~/`:      {lit("a~/")},
		`/~`:       {lit("/~")},
		`:~/x`:     {lit(":~/x")},
		`x=~/y`:    {lit("x=~/y")},
		`~''`:      {lit("~"), quo("")},
		`~'/'`:     {lit("~"), quo("/")},
		`~\/`:      {lit("~"), quo("/")},
		`~"/"`:     {lit("~"), quo("/")},
		`~$x`:      {lit("~"), par("x")},
		`~}`:       {lit("~}")},
		`''~`:      {quo(""), lit("~")},
		`''~/x`:    {quo(""), lit("~/x")},
		`'~'`:      {quo("~")},
		`"~/x"`:    {quo("~/x")},
		`\~/x`:     {quo("~"), lit("/x")},
		`$x~/y`:    {par("x"), lit("~/y")},
		`${x-~}`:   {with("x", "-", lit("~"))},
		`${x-~/a}`: {with("x", "-", lit("~/a"))},
	})
	wrong(t, "~`", `~/'`, `~\`, `~/$(a)`)
}

func TestDeep(t *testing.T) {
	want := parts(nil)
	for n := 1; n <= api.MaxWord; n++ {
		want = parts{with("a", "-", want...)}
		parses(t, map[string]parts{braces(n, ""): want, braces(n, "") + braces(n, ""): append(want[:1:1], want...)})
	}
	parses(t, map[string]parts{
		braces(7, "${x}"):      deepen(7, par("x")),
		braces(7, "${#x}"):     deepen(7, with("x", "len")),
		braces(8, "$x"):        deepen(8, par("x")),
		braces(8, "'${'"):      deepen(8, quo("${")),
		braces(8, `\${`):       deepen(8, quo("$"), lit("{")),
		braces(8, "$((${))"):   deepen(8, ari("${")),
		braces(7, "${x}${y}z"): deepen(7, par("x"), par("y"), lit("z")),
	})
	deep := func(texts ...string) {
		t.Helper()
		fails(t, "Parse", word.Parse, api.ErrDeep, texts...)
	}
	deep(braces(9, ""), braces(10, ""), braces(1000, ""), braces(8, "${x}"), braces(8, "${#x}"), braces(8, "a${x}"), braces(8, `"${x}"`),
		"a"+braces(9, "")+"b", `"`+braces(9, "")+`"`, braces(8, "${x}${y}"), "${x}"+braces(9, ""), braces(8, "")+braces(9, ""))
	deep(strings.Repeat(`"${a-`, 9)+strings.Repeat(`}"`, 9), strings.Repeat(`"${a-`, 9))
}

// deepen is parts within n braces.
func deepen(n int, l ...word.Part) parts {
	for range n {
		l = []word.Part{with("a", "-", l...)}
	}
	return l
}

// What is wrong first is told.
func TestFirst(t *testing.T) {
	open := strings.Repeat("${a-", 9)
	fails(t, "Parse", word.Parse, api.ErrDeep, open, open+"}", open+"`", braces(8, "${!}"), braces(8, "${"), braces(8, "${`"), braces(9, "`"), braces(9, "")+"`", braces(9, "")+"'", `"`+open, "a"+open+"$(")
	wrong(t, "`"+open, "$("+open, "${!"+open, "${x!"+braces(9, ""), "'"+open, "$((1)"+open, "$(("+open, braces(8, "`${x}"), braces(8, "$(${x}"), braces(8, "'${x}"), braces(7, "${!}")+braces(9, ""), `"`+"`"+open, "${a-'"+open)
}

func TestNothing(t *testing.T) {
	for _, call := range []func(string) ([]word.Part, api.Errno){word.Parse, word.Body} {
		if got, e := call(""); len(got) > 0 || e != api.OK {
			t.Errorf("of an empty text: %+v, error %d", got, e)
		}
	}
}

// All bytes by themselves, within quotes, in a brace, behind a backslash and behind a $.
func TestBytes(t *testing.T) {
	for i := range 256 {
		c := string([]byte{byte(i)})
		if !strings.Contains("\\'\"$`~", c) {
			parses(t, map[string]parts{c: {lit(c)}, "a" + c: {lit("a" + c)}})
		}
		if !strings.Contains("\\\"$`", c) {
			parses(t, map[string]parts{`"` + c + `"`: {quo(c)}, `"` + c + `a"`: {quo(c + "a")}})
		}
		if !strings.Contains("\\'\"$`}", c) {
			parses(t, map[string]parts{"${x+a" + c + "}": {with("x", "+", lit("a"+c))}, "${x+" + c + "a}": {with("x", "+", lit(c+"a"))}})
		}
		if c != "'" {
			parses(t, map[string]parts{"'" + c + "'": {quo(c)}, "a'" + c + "'": {lit("a"), quo(c)}})
		}
		if !strings.Contains("()", c) {
			parses(t, map[string]parts{"$((" + c + "))": {ari(c)}})
		}
		parses(t, map[string]parts{`\` + c: {quo(c)}, `a\` + c: {lit("a"), quo(c)}, `${x+\` + c + "}": {with("x", "+", quo(c))}})
		kept := `\` + c
		if strings.Contains("$`\"\\", c) {
			kept = c
		}
		parses(t, map[string]parts{`"\` + c + `"`: {quo(kept)}})
	}
}

func TestByteBehindDollar(t *testing.T) {
	for i := range 256 {
		c := string([]byte{byte(i)})
		switch {
		case lexer.Name(c), strings.Contains("0123456789?#@*-", c):
			parses(t, map[string]parts{"$" + c: {par(c)}, "a$" + c + ".": {lit("a"), par(c), lit(".")}, `"$` + c + `"`: {in(par(c))}, "${" + c + "}": {par(c)}, "${#" + c + "}": {with(c, "len")}})
			if lexer.Name("_"+c) && !lexer.Name(c) {
				parses(t, map[string]parts{"$" + c + c + "a": {par(c), lit(c + "a")}, "${" + c + c + "}": {par(c + c)}})
				wrong(t, "${#"+c+c+"}", "${"+c+"a}")
			}
			if lexer.Name("_" + c) {
				parses(t, map[string]parts{"$_" + c: {par("_" + c)}, "${_" + c + "}": {par("_" + c)}})
			}
		case strings.Contains("\\'\"${(`", c):
		default:
			parses(t, map[string]parts{"$" + c: {lit("$" + c)}, `"$` + c + `"`: {quo("$" + c)}, "$_" + c: {par("_"), lit(c)}})
			wrong(t, "${"+c, "${"+c+"}", "${_"+strings.Trim(c, "}"))
		}
	}
}

// P9.2

func TestBody(t *testing.T) {
	tells(t, "Body", word.Body, map[string]parts{
		"a":              {quo("a")},
		"a b\nc\n":       {quo("a b\nc\n")},
		"\n":             {quo("\n")},
		`"`:              {quo(`"`)},
		`"a"`:            {quo(`"a"`)},
		`'`:              {quo("'")},
		`'$x'`:           {quo("'"), in(par("x")), quo("'")},
		`"$x"`:           {quo(`"`), in(par("x")), quo(`"`)},
		`\"`:             {quo(`\"`)},
		`\"$x\"`:         {quo(`\"`), in(par("x")), quo(`\"`)},
		`\$x`:            {quo("$x")},
		"\\`":            {quo("`")},
		`\\`:             {quo(`\`)},
		`\\"`:            {quo(`\"`)},
		`\a\'\}`:         {quo(`\a\'\}`)},
		"\\\n":           {quo("\\\n")},
		`~`:              {quo("~")},
		`~/x`:            {quo("~/x")},
		`}{()`:           {quo("}{()")},
		`$`:              {quo("$")},
		`a$`:             {quo("a$")},
		`$$`:             {quo("$$")},
		`$"`:             {quo(`$"`)},
		`$'a'`:           {quo("$'a'")},
		`$\"`:            {quo(`$\"`)},
		`$x`:             {in(par("x"))},
		`$x$1`:           {in(par("x")), in(par("1"))},
		"a$x\nb":         {quo("a"), in(par("x")), quo("\nb")},
		`${x}`:           {in(par("x"))},
		`${#x}`:          {in(with("x", "len"))},
		`${x:-a}`:        {in(with("x", ":-", lit("a")))},
		`${x:-"a"'b'$y}`: {in(with("x", ":-", quo("ab"), par("y")))},
		`${x:-"$y"}`:     {in(with("x", ":-", in(par("y"))))},
		`${x:-~}`:        {in(with("x", ":-", lit("~")))},
		`$((1+2))a`:      {in(ari("1+2")), quo("a")},
		braces(8, ""):    {in(deepen(8)[0])},
	})
	fails(t, "Body", word.Body, api.ErrForm, `\`, `a\`, `\\\`, "`", "a`b`", `$(a)`, `a$(`, `${`, `${x`, `${x!}`, `${x-"}`, `${x-'}`, `$((1)`, `$((1)a))`, `"`+"`"+`"`, `'`+"`"+`'`, "\n`\n", "a\n\\")
	fails(t, "Body", word.Body, api.ErrDeep, braces(9, ""), `"`+braces(9, "")+`"`, `'`+braces(9, "")+`'`, braces(8, "${x}"), braces(9, "")+`\`)
	fails(t, "Body", word.Body, api.ErrForm, "`"+braces(9, ""), braces(7, "${!}")+braces(9, ""))
}

func TestBodyBytes(t *testing.T) {
	for i := range 256 {
		c := string([]byte{byte(i)})
		if !strings.Contains("\\$`", c) {
			tells(t, "Body", word.Body, map[string]parts{c: {quo(c)}, "a" + c + "b": {quo("a" + c + "b")}, `\` + c: {quo(`\` + c)}, `a\` + c + "b": {quo(`a\` + c + "b")}})
		} else {
			tells(t, "Body", word.Body, map[string]parts{`\` + c: {quo(c)}, `a\` + c + "b": {quo("a" + c + "b")}})
		}
	}
}

// A Body is as a quoted part, where neither has a `"`.
func TestBodyAsQuoted(t *testing.T) {
	r := rand.New(rand.NewSource(9))
	pieces := []string{"a", "$", "{", "}", "x", "-", "\\", "`", "'", "(", ")", "((", "))", "~", "\n", "${x-", "$x", "$((", "#", "1"}
	for range 100000 {
		s := chance(r, pieces, 1+r.Intn(9))
		b, e := word.Body(s)
		q, f := word.Parse(`"` + s + `"`)
		if e != f && !strings.HasSuffix(s, `\`) || e == api.OK && !same(b, q) {
			t.Fatalf("Body(%q): %+v, error %d; quoted: %+v, error %d", s, b, e, q, f)
		}
	}
}

// chance is n of the pieces, by chance.
func chance(r *rand.Rand, pieces []string, n int) string {
	var s strings.Builder
	for range n {
		s.WriteString(pieces[r.Intn(len(pieces))])
	}
	return s.String()
}

// P9.3

func TestPlain(t *testing.T) {
	r := rand.New(rand.NewSource(93))
	for range 20000 {
		b := make([]byte, 1+r.Intn(40))
		for i := range b {
			for b[i] = byte(r.Intn(256)); strings.IndexByte("\\'\"$~`", b[i]) >= 0; {
				b[i] = byte(r.Intn(256))
			}
		}
		parses(t, map[string]parts{string(b): {lit(string(b))}})
	}
	for _, s := range []string{"a", "a}b{c", "(a;b)", " ", "\n", "a=b", "*?[a-z]", "#", "é\xff\x00", strings.Repeat("ab", 3000)} {
		parses(t, map[string]parts{s: {lit(s)}})
	}
}

// Rule 5 of the whole: a long text is read, too.
func TestLong(t *testing.T) {
	const n = 1 << 20
	long := strings.Repeat("a", n)
	parses(t, map[string]parts{
		long:                                {lit(long)},
		"'" + long + "'":                    {quo(long)},
		`"` + long + `"`:                    {quo(long)},
		strings.Repeat(`\a`, n):             {quo(long)},
		"$" + long:                          {par(long)},
		"${" + long + "}":                   {par(long)},
		"${#" + long + "}":                  {with(long, "len")},
		"${" + strings.Repeat("1", n) + "}": {par(strings.Repeat("1", n))},
		"${x-" + long + "}":                 {with("x", "-", lit(long))},
		"$((" + long + "))":                 {ari(long)},
		"$((" + strings.Repeat("(", n) + strings.Repeat(")", n) + "))": {ari(strings.Repeat("(", n) + strings.Repeat(")", n))},
		strings.Repeat("''", n): {quo("")},
		strings.Repeat("$", n):  {lit(strings.Repeat("$", n))},
	})
	if got, e := word.Parse(strings.Repeat("$x", n)); len(got) != n || e != api.OK {
		t.Errorf("%d parts, error %d", len(got), e)
	}
	wrong(t, strings.Repeat("$((", n), "'"+long, long+"`", "${"+long, "$(("+strings.Repeat("(", n))
	fails(t, "Parse", word.Parse, api.ErrDeep, braces(n, ""))
}

// What is answered is new memory: no row shares any with another, of the same answer or of another one.
func TestNewMemory(t *testing.T) {
	const s = `a"$x"${y-b'c'"${z-d}"}${y-b'c'}~`
	first, _ := word.Parse(s)
	again, _ := word.Parse(s)
	spoil(first)
	if third, _ := word.Parse(s); !same(again, third) {
		t.Errorf("spoilt: %+v, not %+v", again, third)
	}
	got, _ := word.Parse("${a-b}${a-b}${a-b}")
	_ = append(got[:1], lit("x"))
	_ = append(got[0].Word, lit("x"))
	got[0].Word[0] = lit("y")
	if !same(got[2:], parts{with("a", "-", lit("b"))}) {
		t.Errorf("%+v", got)
	}
}

// spoil changes all that stands in a row.
func spoil(l []word.Part) {
	for i := range l {
		spoil(l[i].Word)
		l[i] = lit("spoilt")
	}
}
