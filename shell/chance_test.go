package shell

import (
	"bytes"
	"encoding/hex"
	"math/big"
	"math/rand"
	"regexp"
	"strconv"
	"strings"
	"testing"

	"spigot/api"
	"spigot/book"
	"spigot/conf"
	"spigot/token"
)

// The chapter's lines, told by patterns.
const (
	namePart  = ` ([a-z0-9]{1,16})`
	keyPart   = ` ([!-~]+)`
	wholePart = ` (0|[1-9][0-9]{0,18})`
)

var (
	allowForm   = regexp.MustCompile(`\Aallow` + namePart + keyPart + wholePart + `\z`)
	acquireForm = regexp.MustCompile(`\Aacquire` + namePart + keyPart + `\z`)
	peekForm    = regexp.MustCompile(`\Apeek` + namePart + keyPart + `\z`)
	releaseForm = regexp.MustCompile(`\Arelease ([0-9a-f]+)\z`)
	tickForm    = regexp.MustCompile(`\Atick` + wholePart + `\z`)
)

// model is the chapter on layer 16: one call behind the other, the serial and the
// level counted beside it.
type model struct {
	list   []conf.Named
	book   *book.Book
	now    int64
	serial int64
	level  int
}

func newModel(list []conf.Named, cells int) *model {
	b, _ := book.New(conf.Table(list), cells)
	return &model{list: list, book: b}
}

func wholeOf(s string) (int64, bool) {
	n, _ := new(big.Int).SetString(s, 10)
	return n.Int64(), n.Cmp(big.NewInt(api.Max)) <= 0
}

// call is the line's, as P25.1 tells it.
func (m *model) call(line string) (api.Call, api.Errno) {
	if line == "evict" {
		return api.Call{Op: api.OpEvict}, api.OK
	}
	if line == "split" {
		return api.Call{Op: api.OpSplit}, api.OK
	}
	if w := releaseForm.FindStringSubmatch(line); w != nil {
		p, err := hex.DecodeString(w[1])
		t, e := token.Decode(p)
		if err != nil || e != api.OK {
			return api.Call{}, api.ErrText
		}
		return api.Call{Op: api.OpRelease, Policy: t.Policy, Key: t.Key, N: t.Serial}, api.OK
	}
	for op, form := range map[byte]*regexp.Regexp{api.OpAllow: allowForm, api.OpAcquire: acquireForm, api.OpPeek: peekForm} {
		w := form.FindStringSubmatch(line)
		if w == nil || len(w[2]) > api.MaxKey {
			continue
		}
		call := api.Call{Op: op, Key: []byte(w[2])}
		if op == api.OpAllow {
			n, fits := wholeOf(w[3])
			if !fits {
				return api.Call{}, api.ErrText
			}
			call.N = n
		}
		for i, named := range m.list {
			if named.Name == w[1] {
				call.Policy = i
				return call, api.OK
			}
		}
		return api.Call{}, api.ErrName
	}
	return api.Call{}, api.ErrText
}

func (m *model) answer(line string) string {
	if w := tickForm.FindStringSubmatch(line); w != nil {
		n, fits := wholeOf(w[1])
		if !fits {
			return "error 15"
		}
		m.now = min(m.now+n, api.Max)
		return "now " + strconv.Itoa(int(m.now))
	}
	if line == "cells" || line == "count" {
		return line + " " + strconv.Itoa(m.book.Len())
	}
	call, e := m.call(line)
	if e != api.OK {
		return "error " + strconv.Itoa(int(e))
	}
	r := m.book.Do(call, m.now, m.serial+1)
	if call.Op == api.OpAcquire && (r.E == api.OK || r.E == api.ErrFull) {
		m.serial++
	}
	if call.Op == api.OpSplit {
		if m.level == api.MaxLevel {
			return "error 5"
		}
		m.level++
	}
	if r.E != api.OK {
		return "error " + strconv.Itoa(int(r.E))
	}
	return m.told(call, r)
}

func (m *model) told(call api.Call, r api.Reply) string {
	left, wait := strconv.Itoa(int(r.Left)), strconv.Itoa(int(r.Wait))
	switch {
	case call.Op == api.OpAllow && r.Granted:
		return "yes " + left
	case call.Op == api.OpAllow && r.Wait == api.Max:
		return "no never"
	case call.Op == api.OpAllow:
		return "no " + wait
	case call.Op == api.OpAcquire:
		p, _ := token.Encode(api.Token{Policy: call.Policy, Key: call.Key, Serial: r.Serial})
		return hex.EncodeToString(p)
	case call.Op == api.OpEvict:
		return "gone " + left
	case call.Op == api.OpSplit:
		return "level " + strconv.Itoa(m.level)
	case call.Op == api.OpPeek && m.list[call.Policy].Policy.Kind == api.KindRate:
		return "left " + left + " wait " + wait
	}
	return "free " + left
}

// one of the words.
func one(chance *rand.Rand, words ...string) string { return words[chance.Intn(len(words))] }

const byChance = "rate api 2.5 3 1000\nsema db 2\nlimit slow 1000000 5000000\nsema io 1\nlimit edge 4611686018427387903 0\n"

// chanceToken is one that was answered, mostly, or one like it.
func chanceToken(chance *rand.Rand, given []string) string {
	if len(given) == 0 || chance.Intn(8) == 0 {
		key := one(chance, "a", "b", "c", "")
		p, _ := token.Encode(api.Token{Policy: chance.Intn(7), Key: []byte(key), Serial: 1 + chance.Int63n(9)})
		return token.Hex(p)
	}
	text := given[chance.Intn(len(given))]
	if chance.Intn(10) == 0 {
		at := chance.Intn(len(text))
		text = text[:at] + one(chance, "0", "f", "A", " ", "", "00") + text[at+1:]
	}
	return text
}

// chanceLine is mostly of the form.
func chanceLine(chance *rand.Rand, given []string) string {
	rated := one(chance, "api", "api", "api", "api", "slow", "edge", "db")
	sema := one(chance, "db", "db", "db", "io", "io", "api")
	key := one(chance, "a", "b", "c", "d", "e", "f")
	if chance.Intn(20) == 0 {
		rated = one(chance, "nobody", "API", "", "ap", "abcdefghijklmnopq", "0")
		sema = rated
	}
	if chance.Intn(20) == 0 {
		key = one(chance, "", "\x7f", "é", "~!", "a b", strings.Repeat("k", 255), strings.Repeat("k", 256))
	}
	number := strconv.Itoa(chance.Intn(6))
	if chance.Intn(15) == 0 {
		number = one(chance, "4611686018427387903", "4611686018427387904", "9999999999999999999", "01", "-1", "", "x", "0")
	}
	line := ""
	switch chance.Intn(16) {
	case 0, 1, 2, 3:
		line = "allow " + rated + " " + key + " " + number
	case 4, 5, 6:
		line = "acquire " + sema + " " + key
	case 7, 8, 9:
		line = "release " + chanceToken(chance, given)
	case 10, 11:
		line = "peek " + one(chance, rated, sema) + " " + key
	case 12, 13:
		line = "tick " + number + one(chance, "", "0", "00", "000", "000000")
	case 14:
		line = one(chance, "cells", "count")
	case 15:
		line = one(chance, "evict", "evict", "split", "split", "", "x")
	}
	if chance.Intn(40) == 0 {
		at := chance.Intn(len(line) + 1)
		line = line[:at] + one(chance, " ", "\r", "0", "\t", "\x00", "a") + line[at:]
	}
	return line
}

func TestRunByChance(t *testing.T) {
	chance := rand.New(rand.NewSource(25))
	list, _, _ := conf.Parse(byChance)
	seen := map[string]int{}
	for range 3000 {
		cells := 1 + chance.Intn(12)
		m := newModel(list, cells)
		var script, want []string
		var given []string
		for range chance.Intn(80) {
			line := chanceLine(chance, given)
			answer := m.answer(line)
			if strings.HasPrefix(answer, "5347") {
				given = append(given, answer)
			}
			word, _, _ := strings.Cut(answer, " ")
			if word == "error" || answer == "no never" {
				word = answer
			}
			seen[word[:min(len(word), 8)]]++
			script, want = append(script, line), append(want, answer+"\n")
		}
		text := strings.Join(script, "\n")
		// An empty line at the end is one only with its 0a.
		if len(script) > 0 && (script[len(script)-1] == "" || chance.Intn(2) == 0) {
			text += "\n"
		}
		got, e := Run(byChance, text, cells)
		if e != api.OK || got != strings.Join(want, "") {
			t.Fatalf("%q, %d cells: %q %v, not %q", text, cells, got, e, want)
		}
	}
	for _, answer := range []string{"yes", "no", "no never", "left", "free", "gone", "level", "now", "cells", "count", "error 5", "error 6", "error 9", "error 10", "error 11", "error 15", "error 16"} {
		if seen[answer] == 0 {
			t.Errorf("no answer %q by chance: %v", answer, seen)
		}
	}
}

func TestLineByChance(t *testing.T) {
	chance := rand.New(rand.NewSource(251))
	list, _, _ := conf.Parse(byChance)
	m := newModel(list, 1)
	var given []string
	for i := range 20 {
		p, _ := token.Encode(api.Token{Policy: i, Key: bytes.Repeat([]byte{byte(i)}, i), Serial: int64(1 + i*i)})
		given = append(given, token.Hex(p))
	}
	for range 200000 {
		line := chanceLine(chance, given)
		got, e := Line(list, line)
		want, fault := m.call(line)
		if e != fault || !same(got, want) {
			t.Fatalf("%q: %v %v, not %v %v", line, got, e, want, fault)
		}
	}
}
