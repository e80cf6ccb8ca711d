package config_test

import (
	"slices"
	"strings"
	"testing"

	"subway/api"
	"subway/config"
)

// P9.1, I2: which line is wrong.

// linesOf is how many a text of whole lines has.
func linesOf(s string) int {
	return strings.Count(s, "\n")
}

// told holds that a text is none for that line.
func told(t *testing.T, s string, line int) {
	t.Helper()
	if c, err, at := config.Parse(s); !zero(c) || err != api.ErrWord || at != line {
		t.Errorf("Parse of %q is %v, %d, %d, not nothing, %d, %d", s, c, err, at, api.ErrWord, line)
	}
	parsed(t, s)
}

func TestEmptyText(t *testing.T) {
	told(t, "", 0)
	told(t, "\n", 0)
	told(t, "\n\n\n", 0)
	told(t, " \n", 0)
	told(t, "\n"+head, 0)
}

func TestFirstLineIsTimesAndNoOther(t *testing.T) {
	for _, s := range []string{"tenant ann 1 1\n", "net 0.0.0.0/0\n", "token k 00 1\n"} {
		told(t, s, 0)
		told(t, s+head, 0)
		told(t, s+s, 0)
	}
	told(t, head+head, 1)
	told(t, head+"times 1 1 1 1\n", 1)
	told(t, whole+head, linesOf(whole))
	told(t, head+"tenant ann 1 1\n"+head+"tenant bob 1 1\n", 2)
	told(t, head+"tenant ann 1 1\n"+head+"no line\n", 2)
}

func TestNetsAndTokensHaveATenant(t *testing.T) {
	told(t, head+"net 0.0.0.0/0\n", 1)
	told(t, head+"token k 00 1\n", 1)
	told(t, head+"net 0.0.0.0/0\ntenant ann 1 1\n", 1)
	told(t, head+"token k 00 1\ntenant ann 1 1\n", 1)
}

func TestNetsAreAheadOfTokens(t *testing.T) {
	told(t, head+"tenant ann 1 1\ntoken k 00 1\nnet 0.0.0.0/0\n", 3)
	told(t, head+"tenant ann 1 1\nnet 0.0.0.0/0\ntoken k 00 1\nnet 10.0.0.0/8\n", 4)
	told(t, head+"tenant ann 1 1\ntoken k 00 1\ntoken l 00 1\nnet 0.0.0.0/0\n", 4)
	parsed(t, head+"tenant ann 1 1\ntoken k 00 1\ntenant bob 1 1\nnet 0.0.0.0/0\n")
	parsed(t, head+"tenant ann 1 1\nnet 0.0.0.0/0\nnet 0.0.0.0/0\ntoken k 00 1\ntenant bob 1 1\nnet 0.0.0.0/0\ntoken k 00 1\n")
}

func TestLinesHaveAnEnd(t *testing.T) {
	told(t, strings.TrimSuffix(head, "\n"), 0)
	told(t, strings.TrimSuffix(whole, "\n"), linesOf(whole)-1)
	told(t, head+"tenant ann 1 1", 1)
	told(t, head+" ", 1)
	told(t, head+"x", 1)
	told(t, whole+"tenant", linesOf(whole))
	told(t, strings.ReplaceAll(head, "\n", "\r\n"), 0)
	told(t, strings.ReplaceAll(head, "\n", "\r"), 0)
	told(t, strings.ReplaceAll(head, "\n", "\x00"), 0)
	told(t, head+"tenant ann 1 1\r\n", 1)
	told(t, head+"\n", 1)
	told(t, head+"\ntenant ann 1 1\n", 1)
	told(t, head+"\n\n", 1)
	told(t, whole+"\n", linesOf(whole))
}

// placed is a line that is right, behind what it needs, with words that are wrong at each place.
type placed struct {
	ahead, line string
	wrong       [][]string
}

// noNumbers are none, whatever the bound is; noNames no names.
func noNumbers(more ...string) []string {
	return append(more, "", "-1", "+1", "01", "00", "0x1", "1.0", "1e3", "1_0", "1a", "a", "\xb9", "\u0663", "1\x00", "1\r", "9223372036854775807", "9223372036854775808", "18446744073709551617", strings.Repeat("9", 30), "1099511627777")
}

func noNames() []string {
	return []string{"", "-", "-a", "a-", "A", "a_", "a.b", "\u00e9", "a\x00", "a\r", strings.Repeat("a", 21)}
}

func places() []placed {
	times := noNumbers("0", "1073741825", "4294967297", "1099511627776")
	quota := noNumbers("9", "10", "256", "4294967296", "4294967297", "1099511627776")
	nets := []string{"", "0", "0.0.0.0", "0.0.0.0/", "/0", "0.0.0.0/00", "0.0.0.0/33", "0.0.0.0/-1", "0.0.0/0", "0.0.0.0.0/0", "256.0.0.0/8", "10.1.2.0/16", "010.0.0.0/8", "0.0.0.0/0/0", "::/0", "0.0.0.0/0\r"}
	secrets := []string{"", "0", "000", "0F", "FF", "0g", "0x", "-1", "0\x00", "0\u0663", "00\r", strings.Repeat("0", 65), strings.Repeat("0", 66)}
	return []placed{
		{"", "times 9 8 7 6", [][]string{times, times, times, times}},
		{head, "tenant ann 2 3", [][]string{noNames(), quota, quota}},
		{head + "tenant ann 2 3\n", "net 10.0.0.0/8", [][]string{nets}},
		{head + "tenant ann 2 3\n", "token k 00ff 5", [][]string{noNames(), secrets, noNumbers()}},
	}
}

// toldAlone holds that a line is wrong, whatever is behind it.
func toldAlone(t *testing.T, ahead, line string) {
	t.Helper()
	for _, behind := range []string{"", "tenant bob 1 1\n", "x\n", "\n"} {
		told(t, ahead+line+"\n"+behind, linesOf(ahead))
	}
}

func TestWrongWords(t *testing.T) {
	for _, p := range places() {
		parsed(t, p.ahead+p.line+"\n")
		words := strings.Split(p.line, " ")
		for i, wrong := range p.wrong {
			for _, s := range wrong {
				other := slices.Clone(words)
				other[1+i] = s
				toldAlone(t, p.ahead, strings.Join(other, " "))
			}
		}
	}
}

func TestHowManyWords(t *testing.T) {
	for _, p := range places() {
		words := strings.Split(p.line, " ")
		for i := range words {
			toldAlone(t, p.ahead, strings.Join(words[:i], " "))
			toldAlone(t, p.ahead, strings.Join(slices.Concat(words[:i], words[i+1:]), " "))
			toldAlone(t, p.ahead, strings.Join(slices.Insert(slices.Clone(words), i, words[i]), " "))
			toldAlone(t, p.ahead, strings.Join(slices.Insert(slices.Clone(words), i, ""), " "))
		}
		for _, behind := range []string{" ", "  ", " 1", " a", " 00", " 0.0.0.0/0", " 1 1 1 1", " " + p.line} {
			toldAlone(t, p.ahead, p.line+behind)
		}
		toldAlone(t, p.ahead, " "+p.line)
	}
}

func TestOtherBlanksAndWords(t *testing.T) {
	for _, p := range places() {
		first, rest, _ := strings.Cut(p.line, " ")
		for _, s := range []string{"\t", "\u00a0", "", "\x00", ",", "\v"} {
			toldAlone(t, p.ahead, strings.ReplaceAll(p.line, " ", s))
			toldAlone(t, p.ahead, first+s+rest)
		}
		for _, s := range []string{strings.ToUpper(first), first + "s", first[1:], "x" + first, first + "\x00", "Times", "x", "reading", "config", ""} {
			toldAlone(t, p.ahead, s+" "+rest)
		}
	}
}

func TestNetsOfLines(t *testing.T) {
	for s, is := range map[string]bool{
		"0.0.0.0/0": true, "255.255.255.255/32": true, "10.1.0.0/16": true, "128.0.0.0/1": true, "10.1.2.3/32": true,
		"10.1.2.0/16": false, "10.1.2.3/31": false, "10.1.0.0/33": false, "10.1.0.0/016": false, "10.1.0.0/-1": false, "10.1.0.0": false, "10.1.0.0/": false, "/16": false, "10.1.0/16": false, "10.1.0.0.0/16": false,
		"010.1.0.0/16": false, "256.0.0.0/8": false, "10.1.0.0/16/16": false, "1.0.0.0/0": false, "::/0": false, "a/8": false, "10.1.0.0/1x": false,
	} {
		if s = head + "tenant ann 1 1\nnet " + s + "\n"; is {
			right(t, after(t, s))
		} else {
			told(t, s, 2)
		}
	}
}

// after is what a text says, that says something.
func after(t *testing.T, s string) api.Config {
	t.Helper()
	parsed(t, s)
	c, err, at := config.Parse(s)
	if err != api.OK || at != 0 || zero(c) {
		t.Fatalf("Parse of %q is %v, %d, %d", s, c, err, at)
	}
	return c
}

func TestTheFirstWrongLineIsTold(t *testing.T) {
	all := strings.SplitAfter(whole, "\n")
	all = all[:len(all)-1]
	for i := range all {
		for k := range all {
			other := slices.Clone(all)
			other[i], other[k] = "wrong\n", "wrong\n"
			told(t, strings.Join(other, ""), min(i, k))
			if i < k {
				other[k] = ""
				told(t, strings.Join(other, ""), i)
			}
		}
	}
}

// Lines in all orders, left out and twice: all rows of up to five of these, behind a first one.
func TestRowsOfLines(t *testing.T) {
	pool := []string{"tenant a 1 1\n", "tenant b 1 1\n", "net 0.0.0.0/0\n", "token k 00 1\n", "token l 00 1\n", "times 1 1 1 1\n"}
	var rows func(s string, left int)
	rows = func(s string, left int) {
		parsed(t, s)
		if left == 0 {
			return
		}
		for _, one := range pool {
			rows(s+one, left-1)
		}
	}
	rows("", 2)
	rows(head, 5)
}

func TestTextsOfManyLines(t *testing.T) {
	d := draw(9)
	pool := []string{"tenant a 1 1\n", "tenant b 0 8\n", "tenant c 8 0\n", "tenant c-d 8 0\n", "tenant d 1 1\n", "net 0.0.0.0/0\n", "net 10.0.0.0/8\n", "net 10.1.0.0/16\n", "token a 00 1\n", "token k 00 1\n", "token l ff00 0\n", "token m 61 1099511627776\n", "token z 61 1\n"}
	for range 20000 {
		s := head
		for at := 0; at < len(pool) && d.below(20) > 0; at += d.below(3) { // mostly as they rise
			s += pool[at]
			if d.below(8) == 0 {
				at = d.below(len(pool))
			}
		}
		parsed(t, s)
	}
}

// TestChangedTexts has each byte of a text changed, left out, and another one put ahead.
func TestChangedTexts(t *testing.T) {
	const small = "times 9 10 7 6\ntenant a-n 2 3\nnet 10.1.0.0/16\ntoken k 0aff 5\ntoken l 61 0\n"
	for i := range len(small) {
		parsed(t, small[:i])
		parsed(t, small[i:])
		parsed(t, small[:i]+small[i+1:])
		for c := range 256 {
			parsed(t, small[:i]+string([]byte{byte(c)})+small[i+1:])
			parsed(t, small[:i]+string([]byte{byte(c)})+small[i:])
		}
	}
}

func TestLongTexts(t *testing.T) {
	for many := mostText - 70; many <= mostText; many++ {
		c := long(t, many)
		right(t, c)
		if many < mostText {
			told(t, printed(c)+"x", linesOf(printed(c)))
			told(t, printed(c)+"\n", linesOf(printed(c)))
		}
	}
	for many := mostText + 1; many < mostText+70; many++ {
		right(t, long(t, many)) // that is: Print has a text of it, and Parse says that it is too long
	}
	just := printed(long(t, mostText))
	for _, s := range []string{just + "\n", just + "x", just + just, "\n" + just, "x" + just, strings.Repeat("a", mostText+1), strings.Repeat("\n", mostText+1), strings.Repeat(" ", 1<<20), head + strings.Repeat("\n", mostText)} {
		if c, err, at := config.Parse(s); !zero(c) || err != api.ErrTooMany || at != 0 {
			t.Errorf("of %d bytes: %v, %d, %d", len(s), c, err, at)
		}
	}
	told(t, just[:mostText-1], linesOf(just)-1)
	for _, one := range []string{"a", "\n", " ", "\x00", "\xff", "9", "times "} {
		told(t, strings.Repeat(one, mostText)[:mostText], 0)
		told(t, (head + strings.Repeat(one, mostText))[:mostText], 1)
	}
}

// P9.2: there and back.

func TestThereAndBack(t *testing.T) {
	d := draw(1)
	for range 5000 {
		right(t, d.config())
	}
}

func TestChangedConfigurations(t *testing.T) {
	d := draw(2)
	for range 10000 {
		c := d.config()
		if len(c.Tenants) == 0 {
			continue
		}
		x := &c.Tenants[d.below(len(c.Tenants))]
		switch d.below(5) {
		case 0:
			x.Name = of(&d, "", "-", "a", "m", "z", c.Tenants[0].Name, x.Name+"a")
		case 1:
			x.Names, x.Visitors = d.below(11)-1, d.below(11)-1
		case 2:
			x.Nets = append(x.Nets, api.Net{Addr: uint32(d.below(1<<31)) << d.below(33), Bits: d.below(36) - 2})
		case 3:
			x.Tokens = append(x.Tokens, api.Token{Name: of(&d, "", "a", "m", "zz", "zzz"), Secret: strings.Repeat("s", d.below(36)), Until: of[int64](&d, -1, 0, mostNum, mostNum+1)})
		case 4:
			c.Wait = of[int64](&d, -1, 0, 1, mostTime, mostTime+1)
		}
		want := printed(c)
		_, err, _ := model(want)
		if err == api.ErrTooMany {
			continue
		}
		if is := err == api.OK; config.Right(c) != is || is && config.Print(c) != want || !is && config.Print(c) != "" {
			t.Fatalf("Right is %t, Print is %q, of %q", config.Right(c), config.Print(c), want)
		}
		parsed(t, want)
	}
}

// P9.3: each beginning of whole lines has a configuration.

func TestBeginnings(t *testing.T) {
	d := draw(3)
	texts := []string{whole, printed(long(t, mostText))}
	for range 60 {
		texts = append(texts, printed(d.config()))
	}
	for _, s := range texts {
		if len(s) > mostText {
			continue
		}
		for i := range len(s) + 1 {
			c, err, at := config.Parse(s[:i])
			if i > 0 && s[i-1] == '\n' {
				want, _, _ := model(s[:i])
				if !same(c, want) || zero(c) || err != api.OK || at != 0 || config.Print(c) != s[:i] {
					t.Fatalf("Parse of the beginning %q is %v, %d, %d", s[:i], c, err, at)
				}
			} else if !zero(c) || err != api.ErrWord || at != linesOf(s[:i]) {
				t.Fatalf("Parse of the beginning %q is %v, %d, %d", s[:i], c, err, at)
			}
		}
	}
}
