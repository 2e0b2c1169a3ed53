package script

import (
	"strconv"
	"strings"

	"calamus/api"
)

// The first words of lines, and the last ones of a stroke's.
const (
	overlapsWord = "overlaps"
	joinWord     = "join"
	strokeWord   = "stroke"
	windsWord    = "winds"
	openWord     = "open"
	closedWord   = "closed"
)

const (
	mostWords  = 7
	mostDigits = 9
	mostNumber = 999999999
)

// words are the words for the numbers from 1 on. Where there are fewer of them, the rest are empty.
type words [4]string

// opWords are the operations, in the order of their numbers.
func opWords() words { return words{"union", "meet", "minus", "xor"} }

// joinWords are the joins of a stroke.
func joinWords() words { return words{"miter", "bevel", "round"} }

// capWords are the caps of a stroke.
func capWords() words { return words{"butt", "square", "round"} }

// find is the number that a word stands for, or 0.
func (l words) find(word string) int {
	for i, w := range l {
		if w == word && w != "" {
			return i + 1
		}
	}
	return 0
}

// of is the word for a number, or none.
func (l words) of(n int) string {
	for i, w := range l {
		if i+1 == n {
			return w
		}
	}
	return ""
}

// Parse is the command that a line says.
func Parse(line string) (Cmd, api.Errno) {
	// A line with more words than any command has keeps the rest as one word, which is too many as well.
	parts := strings.SplitN(line, " ", mostWords+1)
	at, valid := 1, true
	next := func() string {
		if at == len(parts) {
			valid = false
			return ""
		}
		at++
		return parts[at-1]
	}
	number := func() int {
		n, ok := count(next())
		valid = valid && ok
		return n
	}
	signed := func() int {
		word, below := strings.CutPrefix(next(), "-")
		n, ok := count(word)
		valid = valid && ok && !(below && n == 0)
		if below {
			return -n
		}
		return n
	}
	choice := func(l words) int {
		n := l.find(next())
		valid = valid && n > 0
		return n
	}
	way := func() bool {
		word := next()
		valid = valid && (word == openWord || word == closedWord)
		return word == openWord
	}
	var c Cmd
	switch parts[0] {
	case overlapsWord:
		c = Cmd{Kind: overlaps, A: number()}
	case joinWord:
		c = Cmd{Kind: join, Op: choice(opWords()), A: number(), B: number(), To: number()}
	case strokeWord:
		c = Cmd{Kind: stroke, A: number(), Pen: api.Pen{Half: number(), Join: choice(joinWords()), Limit: number(), Cap: choice(capWords()), Open: way()}}
	case windsWord:
		c = Cmd{Kind: winds, A: number(), At: api.Point{X: signed(), Y: signed()}}
	default:
		valid = false
	}
	if !valid || at != len(parts) {
		return Cmd{}, api.ErrForm
	}
	return c, api.OK
}

// count is the number of decimal digits without a leading zero, and whether a word is one.
func count(word string) (int, bool) {
	if len(word) < 1 || len(word) > mostDigits || len(word) > 1 && word[0] == '0' {
		return 0, false
	}
	n := 0
	for i := range len(word) {
		if word[i] < '0' || word[i] > '9' {
			return 0, false
		}
		n = 10*n + int(word[i]-'0')
	}
	return n, true
}

// Print is the line that says a command.
func Print(c Cmd) (string, api.Errno) {
	var parts []string
	valid := true
	word := func(w string) {
		valid = valid && w != ""
		parts = append(parts, w)
	}
	between := func(least int, l ...int) {
		for _, n := range l {
			valid = valid && n >= least && n <= mostNumber
			word(strconv.Itoa(n))
		}
	}
	numbers := func(l ...int) { between(0, l...) }
	switch c.Kind {
	case overlaps:
		word(overlapsWord)
		numbers(c.A)
	case join:
		word(joinWord)
		word(opWords().of(c.Op))
		numbers(c.A, c.B, c.To)
	case stroke:
		word(strokeWord)
		numbers(c.A, c.Pen.Half)
		word(joinWords().of(c.Pen.Join))
		numbers(c.Pen.Limit)
		word(capWords().of(c.Pen.Cap))
		if c.Pen.Open {
			word(openWord)
		} else {
			word(closedWord)
		}
	case winds:
		word(windsWord)
		numbers(c.A)
		between(-mostNumber, c.At.X, c.At.Y)
	default:
		valid = false
	}
	if !valid {
		return "", api.ErrForm
	}
	return strings.Join(parts, " "), api.OK
}
