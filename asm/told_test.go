package asm

import (
	"fmt"
	"math/big"
	"regexp"
	"strconv"
	"strings"

	"deadlatch/api"
)

// forms is what the document tells of the words behind each kind's name: registers A, B, C, a word K, a place P, an address M. It is written out without the package's own list.
var forms = []struct{ name, words string }{
	{"halt", ""}, {"set", "AK"}, {"move", "AB"},
	{"add", "ABC"}, {"sub", "ABC"}, {"mul", "ABC"}, {"and", "ABC"}, {"or", "ABC"},
	{"xor", "ABC"}, {"shl", "ABC"}, {"shr", "ABC"}, {"less", "ABC"}, {"same", "ABC"},
	{"jump", "P"}, {"zero", "AP"}, {"some", "AP"},
	{"load", "AM"}, {"store", "AM"}, {"fence", ""}, {"swap", "AM"}, {"fetch", "AM"}, {"cas", "ACM"},
	{"out", "A"}, {"wait", "AM"}, {"wake", "AM"}, {"remote", ""}, {"yield", ""}, {"mark", "AK"},
}

// shapes are the words of forms as patterns: what is told of each stands in groups of its name.
var shapes = map[rune]string{
	'A': `r(?P<A>[0-7])`,
	'B': `r(?P<B>[0-7])`,
	'C': `r(?P<C>[0-7])`,
	'K': `(?P<K>0|[1-9][0-9]*)`,
	'P': `@(?:(?P<K>0|[1-9][0-9]*)|(?P<N>[a-z][a-z0-9]{0,19}))`,
	'M': `\[(?:r(?P<B>[0-7])\+)?(?P<K>0|[1-9][0-9]*)\]`,
}

var (
	namePattern  = regexp.MustCompile(`\A[a-z][a-z0-9]{0,19}\z`)
	linePatterns = patterns()
)

func patterns() []*regexp.Regexp {
	var l []*regexp.Regexp
	for _, f := range forms {
		p := `\A` + f.name
		for _, w := range f.words {
			p += " " + shapes[w]
		}
		l = append(l, regexp.MustCompile(p+`\z`))
	}
	return l
}

// readLine is the instruction of a line by the patterns, and the name that it jumps to.
func readLine(s string) (api.Instr, string, bool) {
	for op, p := range linePatterns {
		m := p.FindStringSubmatch(s)
		if m == nil {
			continue
		}
		i, name := api.Instr{Op: op}, ""
		if strings.Contains(forms[op].words, "M") {
			i.B = 8
		}
		for at, group := range p.SubexpNames() {
			if at == 0 || m[at] == "" {
				continue
			}
			if group == "N" {
				name = m[at]
				continue
			}
			n, _ := new(big.Int).SetString(m[at], 10)
			if !n.IsUint64() || n.Uint64() > 4294967295 {
				return api.Instr{}, "", false
			}
			switch group {
			case "A":
				i.A = int(n.Int64())
			case "B":
				i.B = int(n.Int64())
			case "C":
				i.C = int(n.Int64())
			case "K":
				i.K = uint32(n.Uint64())
			}
		}
		return i, name, true
	}
	return api.Instr{}, "", false
}

// read is what Parse has to answer, by the patterns and the document's order.
func read(s string) ([]api.Instr, int, api.Errno) {
	if len(s) > 20000 {
		return nil, 0, api.ErrLong
	}
	var code []api.Instr
	var lines []int
	var to []string
	places := map[string]int{}
	for at, l := range strings.Split(s, "\n") {
		if l == "" {
			continue
		}
		if l[len(l)-1] == ':' {
			name := l[:len(l)-1]
			if !namePattern.MatchString(name) {
				return nil, at + 1, api.ErrForm
			}
			if _, twice := places[name]; twice {
				return nil, at + 1, api.ErrTwice
			}
			places[name] = len(code)
			continue
		}
		i, name, ok := readLine(l)
		if !ok {
			return nil, at + 1, api.ErrForm
		}
		code, lines, to = append(code, i), append(lines, at+1), append(to, name)
		if len(code) > 4000 {
			return nil, at + 1, api.ErrLong
		}
	}
	for at := range code {
		if to[at] != "" {
			place, ok := places[to[at]]
			if !ok {
				return nil, lines[at], api.ErrNone
			}
			code[at].K = uint32(place)
		}
		if strings.Contains(forms[code[at].Op].words, "P") && uint64(code[at].K) > uint64(len(code)) {
			return nil, lines[at], api.ErrNone
		}
	}
	return code, 0, api.OK
}

// tellLine is the line of an instruction that may be, by forms.
func tellLine(i api.Instr) string {
	f := forms[i.Op]
	s := f.name
	for _, w := range f.words {
		switch w {
		case 'A':
			s += fmt.Sprintf(" r%d", i.A)
		case 'B':
			s += fmt.Sprintf(" r%d", i.B)
		case 'C':
			s += fmt.Sprintf(" r%d", i.C)
		case 'K':
			s += fmt.Sprintf(" %d", i.K)
		case 'P':
			s += fmt.Sprintf(" @%d", i.K)
		case 'M':
			if i.B == 8 {
				s += fmt.Sprintf(" [%d]", i.K)
			} else {
				s += fmt.Sprintf(" [r%d+%d]", i.B, i.K)
			}
		}
	}
	return s
}

// made is an instruction of that kind with all its fields as wanted, those left out that it doesn't use.
func made(op, a, b, c int, k uint32) api.Instr {
	i := api.Instr{Op: op}
	for _, w := range forms[op].words {
		switch w {
		case 'A':
			i.A = a
		case 'B':
			i.B = b % 8
		case 'C':
			i.C = c
		case 'K', 'P':
			i.K = k
		case 'M':
			i.B, i.K = b, k
		}
	}
	return i
}

// halts is so many lines halt, with their ends.
func halts(n int) string { return strings.Repeat("halt\n", n) }

// short is a text, or its front, for a message.
func short(s string) string {
	if len(s) > 60 {
		return strconv.Quote(s[:60]) + ".."
	}
	return strconv.Quote(s)
}
