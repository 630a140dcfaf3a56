package timber_test

import (
	"reflect"
	"regexp"
	"strconv"
	"strings"
	"testing"

	"spokeshave/api"
	"spokeshave/timber"
)

const stockText = "species oak 1 300 150 700 12000 90\n" +
	"species ash 2 250 160 680 13000 100\n" +
	"species Pine-2 0 200 100 450 9000 60\n" +
	"board spotted oak 100 40 20 0 80\n" +
	"defect 10 0 20 15\n" +
	"defect 60 30 70 40\n" +
	"board other ash 600000 100000 20000 1 400\n"

func otherBoard() api.Board {
	return api.Board{Name: "other", Species: "ash", Length: 600000, Width: 100000, Thick: 20000, Cut: 1, Moisture: 400}
}

// P2.8: a stock and its text.
func TestText(t *testing.T) {
	for name, x := range map[string]struct {
		l     []api.Species
		stock []api.Board
		text  string
	}{
		"nothing": {nil, nil, ""},
		"species": {[]api.Species{oak()}, nil, "species oak 1 300 150 700 12000 90\n"},
		"stock":   {woods(), []api.Board{spotted(), otherBoard()}, stockText},
	} {
		if text, e := timber.Print(x.l, x.stock); text != x.text || e != api.OK {
			t.Errorf("Print %s: %q, %d", name, text, e)
		}
		l, stock, line, e := timber.Parse(x.text)
		if !reflect.DeepEqual(l, x.l) || !reflect.DeepEqual(stock, x.stock) || line != 0 || e != api.OK {
			t.Errorf("Parse %s: %v, %v, %d, %d", name, l, stock, line, e)
		}
	}
}

// P2.8: wrong lines, and their numbers.
func TestParseLines(t *testing.T) {
	ash := "species ash 2 250 160 680 13000 100\n"
	head := "species oak 1 300 150 700 12000 90\n"
	board := "board one oak 100 40 20 0 80\n"
	for text, want := range map[string]int{
		"\n":                                           1,
		" ":                                            1,
		"x":                                            1,
		"species":                                      1,
		head[:len(head)-1]:                             1,
		head + "\n":                                    2,
		head + board + "\n":                            3,
		head + board + "defect":                        3,
		head + board[:20]:                              2,
		head + board + ash:                             3,
		head + "defect 1 1 2 2\n":                      2,
		"defect 1 1 2 2\n":                             1,
		head + board + "defect 1 1 2 2\n" + ash:        4,
		head + board + "defect 1 1 2 2":                3,
		head + board + "defect 1 1 2\n":                3,
		head + board + "defect 1 1 2 2 3\n":            3,
		head + board + "defect 1 1 2 2 \n":             3,
		head + board + "defect  1 1 2 2\n":             3,
		head + board + " defect 1 1 2 2\n":             3,
		head + board + "defect\n":                      3,
		head + board + "defect -1 1 2 2\n":             3,
		head + board + "defect +1 1 2 2\n":             3,
		head + board + "defect 01 1 2 2\n":             3,
		head + board + "defect 00 1 2 2\n":             3,
		head + board + "defect -0 1 2 2\n":             3,
		head + board + "defect 1 1 2 12345678\n":       3,
		head + board + "defect 1 1 2 2x\n":             3,
		head + board + "defect 1 1 2 :\n":              3,
		head + board + "defect 1 1 2 /\n":              3,
		head + board + "defect 1 1 2 \u0663\n":         3,
		head + board + "defect 1 1 2 2\r\n":            3,
		head + board + "Defect 1 1 2 2\n":              3,
		head + board + "defects 1 1 2 2\n":             3,
		head + board + "defect\t1 1 2 2\n":             3,
		head + board + "knot 1 1 2 2\n":                3,
		head + "board one oak 100 40 20 0\n":           2,
		head + "board one oak 100 40 20 0 80 1\n":      2,
		head + "board one 100 40 20 0 80\n":            2,
		head + "board one oak 100 40 20 x 80\n":        2,
		head + "board\n":                               2,
		"species oak 1 300 150 700 12000\n":            1,
		"species oak 1 300 150 700 12000 90 1\n":       1,
		"species 1 300 150 700 12000 90\n":             1,
		"species oak 1 300 150 700  12000 90\n":        1,
		"species a b 1 300 150 700 12000 90\n":         1,
		"species oak 1 300 150 700 12000 90 \n":        1,
		head + "species oak 1 2 3\n" + board + "wrong": 2,
	} {
		l, stock, line, e := timber.Parse(text)
		if l != nil || stock != nil || line != want || e != api.ErrSyntax {
			t.Errorf("%q: %v, %v, %d, %d, want line %d", text, l, stock, line, e, want)
		}
	}
}

// P2.8: texts of stocks that have errors.
func TestParseErrors(t *testing.T) {
	head := "species oak 1 300 150 700 12000 90\n"
	board := "board one oak 100 40 20 0 80\n"
	for text, want := range map[string]api.Errno{
		"species  1 300 150 700 12000 90\n":                        api.ErrName,
		"species a\tb 1 300 150 700 12000 90\n":                    api.ErrName,
		"species oak\r 1 300 150 700 12000 90\n":                   api.ErrName,
		"species \xff 1 300 150 700 12000 90\n":                    api.ErrName,
		"species -5 1 300 150 700 12000 90\n":                      api.ErrName,
		"species abcdefghijklm 1 300 150 700 12000 90\n":           api.ErrName,
		"species oak 2001 300 150 700 12000 90\n":                  api.ErrRange,
		"species oak 1 300 150 700 9999999 90\n":                   api.ErrRange,
		head + head:                                                api.ErrExists,
		head + "board one  100 40 20 0 80\n":                       api.ErrName,
		head + "board   100 40 20 0 80\n":                          api.ErrName,
		head + "board one elm 100 40 20 0 80\n":                    api.ErrMissing,
		board:                                                      api.ErrMissing,
		head + "board one oak 1000000 40 20 0 80\n":                api.ErrRange,
		head + "board one oak 0 40 20 0 80\n":                      api.ErrRange,
		head + board + "defect 0 0 0 0\n":                          api.ErrForm,
		head + board + "defect 0 0 101 1\n":                        api.ErrRange,
		head + board + board:                                       api.ErrExists,
		head + board + strings.Repeat("defect 1 1 2 2\n", 60):      api.OK,
		head + board + strings.Repeat("defect 1 1 2 2\n", 61):      api.ErrLarge,
		strings.Repeat(head, 41):                                   api.ErrLarge,
		head + strings.Repeat(board, 101):                          api.ErrLarge,
		head + "board species oak 100 40 20 0 80\n":                api.OK,
		"species board 1 300 150 700 12000 90\n":                   api.OK,
		strings.Repeat("a", 60001):                                 api.ErrLarge,
		head + strings.Repeat(" ", 60000):                          api.ErrLarge,
		head + board + strings.Repeat("defect 1 1 2 2\n", 60)[:15]: api.OK,
	} {
		l, stock, line, e := timber.Parse(text)
		if line != 0 || e != want || e != api.OK && (l != nil || stock != nil) {
			t.Errorf("%.40q: %v, %v, %d, %d, want %d", text, l, stock, line, e, want)
		}
	}
	// A text of 60000 bytes is read: its last line is too long by far, but not the text.
	full := head + "board " + strings.Repeat("a", 60000-len(head)-len("board  oak 100 40 20 0 80\n")) + " oak 100 40 20 0 80\n"
	if _, _, line, e := timber.Parse(full); len(full) != 60000 || line != 0 || e != api.ErrName {
		t.Errorf("%d bytes: %d, %d", len(full), line, e)
	}
	if _, _, line, e := timber.Parse(full + "\n"); line != 0 || e != api.ErrLarge {
		t.Errorf("%d bytes: %d, %d", len(full)+1, line, e)
	}
}

// P2.8: a line is right if it has one of three forms.
func TestParseByDefinition(t *testing.T) {
	number := `(0|[1-9][0-9]{0,6})`
	species := regexp.MustCompile(`^species [^ \n]*( ` + number + `){6}\n$`)
	board := regexp.MustCompile(`^board [^ \n]* [^ \n]*( ` + number + `){5}\n$`)
	defect := regexp.MustCompile(`^defect( ` + number + `){4}\n$`)
	words := []string{"species", "board", "defect", "oak", "one", "", "0", "1", "20", "300", "9999999", "12345678", "-1", "00"}
	random := steadily(8)
	for range 20000 {
		lines := []string{"species oak 1 300 150 700 12000 90\n", "board one oak 100 40 20 0 80\n", "defect 1 1 2 2\n"}
		i := random.IntN(3)
		parts := strings.Split(strings.TrimSuffix(lines[i], "\n"), " ")
		for range 1 + random.IntN(2) {
			at := random.IntN(len(parts))
			switch random.IntN(3) {
			case 0:
				parts[at] = words[random.IntN(len(words))]
			case 1:
				parts = append(parts[:at:at], append([]string{words[random.IntN(len(words))]}, parts[at:]...)...)
			case 2:
				if parts = append(parts[:at:at], parts[at+1:]...); len(parts) == 0 {
					parts = []string{""}
				}
			}
		}
		lines[i] = strings.Join(parts, " ") + "\n"
		want, boards := 0, 0
		for n, line := range lines {
			isBoard := board.MatchString(line)
			if right := species.MatchString(line) && boards == 0 || isBoard || defect.MatchString(line) && boards > 0; !right {
				want = n + 1
				break
			}
			if isBoard {
				boards++
			}
		}
		_, _, line, e := timber.Parse(strings.Join(lines, ""))
		if line != want || (e == api.ErrSyntax) != (want > 0) {
			t.Fatalf("%q: %d, %d, want line %d", lines, line, e, want)
		}
	}
}

// P2.11: what is printed is read again.
func TestParsePrint(t *testing.T) {
	random := steadily(88)
	for range 300 {
		l := woods()
		for i := range l {
			l[i].Along, l[i].Density = random.IntN(2001), 1+random.IntN(2000)
		}
		var stock []api.Board
		for i := range random.IntN(5) {
			b := anyBoard(random)
			b.Name, b.Species, b.Cut, b.Moisture = "b-"+strconv.Itoa(i), l[random.IntN(3)].Name, random.IntN(2), random.IntN(401)
			stock = append(stock, b)
		}
		text, e := timber.Print(l, stock)
		if e != api.OK {
			t.Fatalf("%v, %v: %d", l, stock, e)
		}
		species, boards, line, e := timber.Parse(text)
		if !reflect.DeepEqual(species, l) || !reflect.DeepEqual(boards, stock) || line != 0 || e != api.OK {
			t.Fatalf("%q: %v, %v, %d, %d", text, species, boards, line, e)
		}
	}
	// A stock may have a longer text than may be read.
	long := boards(100)
	for i := range long {
		for range 60 {
			long[i].Defects = append(long[i].Defects, api.Rect{X1: 1, Y1: 1, X2: 2, Y2: 2})
		}
	}
	text, e := timber.Print(woods(), long)
	if len(text) <= api.MaxText || e != api.OK {
		t.Errorf("%d bytes, %d", len(text), e)
	}
	if _, _, line, e := timber.Parse(text); line != 0 || e != api.ErrLarge {
		t.Errorf("%d bytes read again: %d, %d", len(text), line, e)
	}
}
