package command_test

import (
	"math"
	"math/bits"
	"math/rand/v2"
	"reflect"
	"slices"
	"strconv"
	"strings"
	"testing"

	"palio/api"
	"palio/command"
)

// row is a name, how few and how many arguments can stand behind it, and whether it writes.
type row struct {
	name   string
	least  int
	most   int
	writes bool
}

func rows() []row {
	return []row{
		{"PING", 0, 1, false}, {"DEL", 1, 63, true}, {"EXISTS", 1, 63, false}, {"TYPE", 1, 1, false}, {"RENAME", 2, 2, true},
		{"DBSIZE", 0, 0, false}, {"FLUSHALL", 0, 0, true}, {"SCAN", 1, 3, false}, {"OBJECT", 2, 2, false},
		{"ZADD", 3, 63, true}, {"ZINCRBY", 3, 3, true}, {"ZREM", 2, 63, true},
		{"ZSCORE", 2, 2, false}, {"ZRANK", 2, 2, false}, {"ZREVRANK", 2, 2, false}, {"ZCARD", 1, 1, false},
		{"ZRANGE", 3, 4, false}, {"ZREVRANGE", 3, 4, false}, {"ZRANGEBYSCORE", 3, 4, false}, {"ZCOUNT", 3, 3, false},
		{"ZREMRANGEBYSCORE", 3, 3, true}, {"ZRANGEBYLEX", 3, 3, false}, {"ZREMRANGEBYRANK", 3, 3, true},
		{"ZPOPMIN", 1, 2, true}, {"ZPOPMAX", 1, 2, true},
		{"ZUNIONSTORE", 3, 63, true}, {"ZINTERSTORE", 3, 63, true}, {"ZDIFFSTORE", 3, 63, true}, {"ZSCAN", 2, 4, false},
	}
}

// none are no names.
func none() []string {
	l := []string{
		"", " ", "\x00", "GET", "SET", "ADD", "RANGE", "Z", "ZZ", "ZADDS", "ZAD", "ADDZ", "ZADD ", " ZADD", "ZADD\r\n", "ZADD\x00", "\x00ZADD", "Z ADD", "zadd k", "PING!", "PIN", "PINGG", "PONG", "NX", "MATCH", "WITHSCORES", "ENCODING", "*", "?", "Z*", "0", "1", "-1",
		// These have letters within as capitals or as small ones, outside of ASCII.
		"zran\u212a", "ZRAN\u212a", "e\u017fxists", "exi\u017ft\u017f", "DB\u017fIZE", "dbs\u0131ze", "DBS\u0130ZE", "p\u0131ng", "P\u0130NG", "\uff30\uff29\uff2e\uff27", "\uff50\uff49\uff4e\uff47", "DEL\u0301", "\u0434el",
		"\xff", "\xffDEL", "DEL\xff", "D\xffL", "\ufffd", "D\ufffdL", "\xc4EL", "\xe4el", "$EL", "dEl\x80", "\x10\x09\x0e\x07", "0).'", "PING\x7f", "[ADD", "@ADD", "{add", "`add",
		strings.Repeat("Z", 1<<16), strings.Repeat("ZADD", 1<<14), strings.Repeat("\xff", 1<<16), strings.Repeat("é", 1<<15),
	}
	return l
}

// cases are forms of a word in some cases of letters, itself first.
func cases(word string) []string {
	small := strings.ToLower(word)
	l := []string{word, small, strings.ToUpper(word)}
	var odd, even string
	for at := range len(word) {
		l = append(l, small[:at]+strings.ToUpper(small[at:at+1])+small[at+1:], word[:at]+small[at:at+1]+word[at+1:])
		if at%2 == 0 {
			odd, even = odd+word[at:at+1], even+small[at:at+1]
		} else {
			odd, even = odd+small[at:at+1], even+word[at:at+1]
		}
	}
	return append(l, odd, even)
}

func long(n int) string { return strings.Repeat("x", n) }

// many is a word so often.
func many(word string, n int) []string { return slices.Repeat([]string{word}, n) }

// line is a line's words.
func line(s string) []string { return strings.Fields(s) }

func join(lists ...[]string) []string { return slices.Concat(lists...) }

// bare is a command whose empty lists are none.
func bare(c api.Cmd) api.Cmd {
	if len(c.Keys) == 0 {
		c.Keys = nil
	}
	if len(c.Entries) == 0 {
		c.Entries = nil
	}
	if len(c.Weights) == 0 {
		c.Weights = nil
	}
	return c
}

func short(args []string) []string {
	var l []string
	for _, arg := range args {
		if len(arg) > 80 {
			arg = arg[:80] + ".."
		}
		l = append(l, arg)
	}
	return l
}

func check(t *testing.T, args []string, want api.Cmd, e api.Errno) {
	t.Helper()
	got, told := command.Parse(args)
	if told != e || !reflect.DeepEqual(bare(got), bare(want)) {
		t.Errorf("Parse(%q) is %+v, %d, not %+v, %d", short(args), got, told, want, e)
	}
}

func checkWrong(t *testing.T, args []string, e api.Errno) {
	t.Helper()
	check(t, args, api.Cmd{}, e)
}

// model reads arguments by their places; of what is wrong it keeps the first.
type model struct {
	args []string
	c    api.Cmd
	e    api.Errno
}

func (m *model) at(n int) string {
	if n < len(m.args) {
		return m.args[n]
	}
	return ""
}

func (m *model) fail(is bool, e api.Errno) {
	if is && m.e == api.OK {
		m.e = e
	}
}

func (m *model) key(n int) {
	m.fail(len(m.at(n)) > 64, api.ErrSyntax)
	m.c.Keys = append(m.c.Keys, m.at(n))
}

func (m *model) member(n int, score int64) {
	m.fail(len(m.at(n)) > 64, api.ErrSyntax)
	m.c.Entries = append(m.c.Entries, api.Entry{Member: m.at(n), Score: score})
}

func modelNumber(s string) (int64, bool) {
	n, err := strconv.ParseInt(s, 10, 64)
	return n, err == nil && strconv.FormatInt(n, 10) == s
}

func (m *model) number(n int, least int64, most int64, e api.Errno) int64 {
	number, is := modelNumber(m.at(n))
	m.fail(!is || number < least || number > most, e)
	return number
}

func (m *model) any(n int) int64 {
	return m.number(n, math.MinInt64, math.MaxInt64, api.ErrNumber)
}

func (m *model) word(n int, word string) {
	m.fail(strings.ToUpper(m.at(n)) != word, api.ErrSyntax)
}

func (m *model) match(n int) {
	m.c.Match = "*"
	if len(m.args) > n {
		m.word(n, "MATCH")
		m.fail(len(m.args) < n+2 || len(m.at(n+1)) > 64, api.ErrSyntax)
		m.c.Match = m.at(n + 1)
	}
}

func (m *model) scores(n int) {
	if len(m.args) > n {
		m.word(n, "WITHSCORES")
		m.c.Scores = true
	}
}

func (m *model) bound(n int) api.Bound {
	switch s := m.at(n); s {
	case "-inf":
		return api.Bound{Inf: -1}
	case "+inf", "inf":
		return api.Bound{Inf: 1}
	default:
		digits := strings.TrimPrefix(s, "(")
		number, is := modelNumber(digits)
		m.fail(!is, api.ErrEnds)
		return api.Bound{N: number, Out: digits != s}
	}
}

func (m *model) edge(n int) api.Edge {
	s := m.at(n)
	switch {
	case s == "-":
		return api.Edge{Inf: -1}
	case s == "+":
		return api.Edge{Inf: 1}
	case s == "" || s[0] != '[' && s[0] != '(':
		m.fail(true, api.ErrEnds)
		return api.Edge{}
	}
	return api.Edge{S: s[1:], Out: s[0] == '('}
}

func (m *model) add() {
	m.key(1)
	from := 2
	f := &m.c.Flags
	words := map[string]*bool{"NX": &f.NX, "XX": &f.XX, "GT": &f.GT, "LT": &f.LT, "CH": &f.CH, "INCR": &f.Incr}
	for ; from < len(m.args) && words[strings.ToUpper(m.args[from])] != nil; from++ {
		*words[strings.ToUpper(m.args[from])] = true
	}
	n := len(m.args) - from
	m.fail(f.NX && (f.XX || f.GT || f.LT) || f.GT && f.LT, api.ErrSyntax)
	m.fail(n == 0 || n%2 == 1, api.ErrSyntax)
	m.fail(f.Incr && n != 2, api.ErrSyntax)
	for ; from < len(m.args); from += 2 {
		m.member(from+1, m.any(from))
	}
}

func (m *model) store() {
	m.key(1)
	n := int(m.number(2, 1, 60, api.ErrNumber))
	m.fail(n > len(m.args)-3, api.ErrSyntax)
	if m.e != api.OK {
		return
	}
	for at := range n {
		m.key(3 + at)
	}
	behind := 3 + n
	if m.c.Name != "ZDIFFSTORE" {
		m.c.Weights, m.c.Agg = slices.Repeat([]int64{1}, n), api.AggSum
		behind = m.mix(behind, n)
	}
	m.fail(len(m.args) > behind, api.ErrSyntax)
}

func (m *model) mix(behind int, n int) int {
	if strings.ToUpper(m.at(behind)) == "WEIGHTS" {
		m.fail(len(m.args) < behind+1+n, api.ErrSyntax)
		for at := range n {
			m.c.Weights[at] = m.any(behind + 1 + at)
		}
		behind += 1 + n
	}
	if strings.ToUpper(m.at(behind)) == "AGGREGATE" {
		m.c.Agg = 1 + slices.Index([]string{"SUM", "MIN", "MAX"}, strings.ToUpper(m.at(behind+1)))
		m.fail(m.c.Agg == 0, api.ErrSyntax)
		behind += 2
	}
	return behind
}

func (m *model) read() {
	switch m.c.Name {
	case "PING", "DEL", "EXISTS", "TYPE", "RENAME":
		for n := range len(m.args) - 1 {
			m.key(n + 1)
		}
	case "SCAN":
		m.c.Cursor = uint32(m.number(1, 0, math.MaxUint32, api.ErrCursor))
		m.match(2)
	case "OBJECT":
		m.word(1, "ENCODING")
		m.key(2)
	case "ZADD":
		m.add()
	case "ZUNIONSTORE", "ZINTERSTORE", "ZDIFFSTORE":
		m.store()
	case "DBSIZE", "FLUSHALL":
	default:
		m.key(1)
		m.readSet()
	}
}

// readSet reads what stands behind a set's key.
func (m *model) readSet() {
	switch m.c.Name {
	case "ZINCRBY":
		m.c.Flags.Incr = true
		m.member(3, m.any(2))
	case "ZREM", "ZSCORE", "ZRANK", "ZREVRANK":
		for n := range len(m.args) - 2 {
			m.member(n+2, 0)
		}
	case "ZRANGE", "ZREVRANGE", "ZREMRANGEBYRANK":
		m.c.N, m.c.M = m.any(2), m.any(3)
		m.scores(4)
	case "ZRANGEBYSCORE", "ZCOUNT", "ZREMRANGEBYSCORE":
		m.c.From, m.c.To = m.bound(2), m.bound(3)
		m.scores(4)
	case "ZRANGEBYLEX":
		m.c.Low, m.c.High = m.edge(2), m.edge(3)
	case "ZPOPMIN", "ZPOPMAX":
		m.c.N = 1
		if len(m.args) > 2 {
			m.c.N = m.number(2, 0, math.MaxInt64, api.ErrNumber)
		}
	case "ZSCAN":
		m.c.Cursor = uint32(m.number(2, 0, math.MaxUint32, api.ErrCursor))
		m.match(3)
	}
	m.c.Turned = slices.Contains([]string{"ZREVRANK", "ZREVRANGE", "ZPOPMAX"}, m.c.Name)
}

// modelParse is for names of letters of ASCII.
func modelParse(args []string) (api.Cmd, api.Errno) {
	if len(args) == 0 {
		return api.Cmd{}, api.ErrName
	}
	name := strings.ToUpper(args[0])
	for _, r := range rows() {
		if r.name != name {
			continue
		}
		if len(args)-1 < r.least || len(args)-1 > r.most {
			return api.Cmd{}, api.ErrArity
		}
		m := &model{args: args, c: api.Cmd{Name: name}}
		m.read()
		if m.e != api.OK {
			return api.Cmd{}, m.e
		}
		return m.c, api.OK
	}
	return api.Cmd{}, api.ErrName
}

func checkModel(t *testing.T, args []string) api.Errno {
	t.Helper()
	want, e := modelParse(args)
	check(t, args, want, e)
	return e
}

// is is an entry of the score 0.
func is(member string) api.Entry { return api.Entry{Member: member} }

// right is arguments that are a command, and which; words that may be in whatever case are in capitals, and others are not.
type right struct {
	args []string
	want api.Cmd
}

func rights() []right { return append(rightKeys(), append(rightSets(), rightStores()...)...) }

func rightKeys() []right {
	most := uint32(math.MaxUint32)
	return []right{
		{line("PING"), api.Cmd{Name: "PING"}},
		{line("PING hello"), api.Cmd{Name: "PING", Keys: line("hello")}},
		{[]string{"PING", ""}, api.Cmd{Name: "PING", Keys: []string{""}}},
		{line("DEL k"), api.Cmd{Name: "DEL", Keys: line("k")}},
		{line("DEL a b a"), api.Cmd{Name: "DEL", Keys: line("a b a")}},
		{join(line("DEL"), many("k", 63)), api.Cmd{Name: "DEL", Keys: many("k", 63)}},
		{line("EXISTS k"), api.Cmd{Name: "EXISTS", Keys: line("k")}},
		{join(line("EXISTS"), many("k", 62), line("z")), api.Cmd{Name: "EXISTS", Keys: join(many("k", 62), line("z"))}},
		{line("TYPE k"), api.Cmd{Name: "TYPE", Keys: line("k")}},
		{line("RENAME a b"), api.Cmd{Name: "RENAME", Keys: line("a b")}},
		{line("RENAME a a"), api.Cmd{Name: "RENAME", Keys: line("a a")}},
		{line("DBSIZE"), api.Cmd{Name: "DBSIZE"}},
		{line("FLUSHALL"), api.Cmd{Name: "FLUSHALL"}},
		{line("SCAN 0"), api.Cmd{Name: "SCAN", Match: "*"}},
		{line("SCAN 4294967295"), api.Cmd{Name: "SCAN", Cursor: most, Match: "*"}},
		{line("SCAN 17 MATCH a*[b-c]?"), api.Cmd{Name: "SCAN", Cursor: 17, Match: "a*[b-c]?"}},
		{[]string{"SCAN", "1", "MATCH", ""}, api.Cmd{Name: "SCAN", Cursor: 1}},
		{line("OBJECT ENCODING k"), api.Cmd{Name: "OBJECT", Keys: line("k")}},
		{line("ZSCAN k 0"), api.Cmd{Name: "ZSCAN", Keys: line("k"), Match: "*"}},
		{line("ZSCAN k 4294967295 MATCH \\*"), api.Cmd{Name: "ZSCAN", Keys: line("k"), Cursor: most, Match: "\\*"}},
	}
}

func rightSets() []right {
	k := line("k")
	least, most := int64(math.MinInt64), int64(math.MaxInt64)
	five, above := api.Bound{N: 5, Out: true}, api.Bound{Inf: 1}
	return []right{
		{line("ZADD k 5 a"), api.Cmd{Name: "ZADD", Keys: k, Entries: []api.Entry{{Member: "a", Score: 5}}}},
		{line("ZADD k NX 5 a"), api.Cmd{Name: "ZADD", Keys: k, Flags: api.Add{NX: true}, Entries: []api.Entry{{Member: "a", Score: 5}}}},
		{line("ZADD k XX CH 5 a -6 b 5 a"), api.Cmd{Name: "ZADD", Keys: k, Flags: api.Add{XX: true, CH: true}, Entries: []api.Entry{{Member: "a", Score: 5}, {Member: "b", Score: -6}, {Member: "a", Score: 5}}}},
		{line("ZADD k CH GT XX INCR -9223372036854775808 a"), api.Cmd{Name: "ZADD", Keys: k, Flags: api.Add{XX: true, GT: true, CH: true, Incr: true}, Entries: []api.Entry{{Member: "a", Score: least}}}},
		{line("ZADD k LT LT 9223372036854775807 a"), api.Cmd{Name: "ZADD", Keys: k, Flags: api.Add{LT: true}, Entries: []api.Entry{{Member: "a", Score: most}}}},
		{line("ZINCRBY k -3 a"), api.Cmd{Name: "ZINCRBY", Keys: k, Flags: api.Add{Incr: true}, Entries: []api.Entry{{Member: "a", Score: -3}}}},
		{line("ZREM k a"), api.Cmd{Name: "ZREM", Keys: k, Entries: []api.Entry{is("a")}}},
		{line("ZREM k b a 5 b"), api.Cmd{Name: "ZREM", Keys: k, Entries: []api.Entry{is("b"), is("a"), is("5"), is("b")}}},
		{join(line("ZREM k"), many("a", 62)), api.Cmd{Name: "ZREM", Keys: k, Entries: slices.Repeat([]api.Entry{is("a")}, 62)}},
		{line("ZSCORE k a"), api.Cmd{Name: "ZSCORE", Keys: k, Entries: []api.Entry{is("a")}}},
		{line("ZRANK k a"), api.Cmd{Name: "ZRANK", Keys: k, Entries: []api.Entry{is("a")}}},
		{line("ZREVRANK k a"), api.Cmd{Name: "ZREVRANK", Keys: k, Entries: []api.Entry{is("a")}, Turned: true}},
		{line("ZCARD k"), api.Cmd{Name: "ZCARD", Keys: k}},
		{line("ZRANGE k 0 -1"), api.Cmd{Name: "ZRANGE", Keys: k, M: -1}},
		{line("ZRANGE k -9223372036854775808 9223372036854775807 WITHSCORES"), api.Cmd{Name: "ZRANGE", Keys: k, N: least, M: most, Scores: true}},
		{line("ZREVRANGE k 3 2"), api.Cmd{Name: "ZREVRANGE", Keys: k, N: 3, M: 2, Turned: true}},
		{line("ZREVRANGE k 1 2 WITHSCORES"), api.Cmd{Name: "ZREVRANGE", Keys: k, N: 1, M: 2, Scores: true, Turned: true}},
		{line("ZRANGEBYSCORE k (5 +inf"), api.Cmd{Name: "ZRANGEBYSCORE", Keys: k, From: five, To: above}},
		{line("ZRANGEBYSCORE k -inf -7 WITHSCORES"), api.Cmd{Name: "ZRANGEBYSCORE", Keys: k, From: api.Bound{Inf: -1}, To: api.Bound{N: -7}, Scores: true}},
		{line("ZCOUNT k inf (5"), api.Cmd{Name: "ZCOUNT", Keys: k, From: above, To: five}},
		{line("ZREMRANGEBYSCORE k (5 inf"), api.Cmd{Name: "ZREMRANGEBYSCORE", Keys: k, From: five, To: above}},
		{line("ZRANGEBYLEX k - +"), api.Cmd{Name: "ZRANGEBYLEX", Keys: k, Low: api.Edge{Inf: -1}, High: api.Edge{Inf: 1}}},
		{line("ZRANGEBYLEX k (b [a"), api.Cmd{Name: "ZRANGEBYLEX", Keys: k, Low: api.Edge{S: "b", Out: true}, High: api.Edge{S: "a"}}},
		{line("ZREMRANGEBYRANK k -2 7"), api.Cmd{Name: "ZREMRANGEBYRANK", Keys: k, N: -2, M: 7}},
		{line("ZPOPMIN k"), api.Cmd{Name: "ZPOPMIN", Keys: k, N: 1}},
		{line("ZPOPMIN k 0"), api.Cmd{Name: "ZPOPMIN", Keys: k}},
		{line("ZPOPMAX k"), api.Cmd{Name: "ZPOPMAX", Keys: k, N: 1, Turned: true}},
		{line("ZPOPMAX k 9223372036854775807"), api.Cmd{Name: "ZPOPMAX", Keys: k, N: most, Turned: true}},
	}
}

func rightStores() []right {
	var l []right
	for _, name := range []string{"ZUNIONSTORE", "ZINTERSTORE"} {
		l = append(l,
			right{line(name + " d 1 a"), api.Cmd{Name: name, Keys: line("d a"), Weights: []int64{1}, Agg: 1}},
			right{line(name + " d 2 a d"), api.Cmd{Name: name, Keys: line("d a d"), Weights: []int64{1, 1}, Agg: 1}},
			right{line(name + " d 2 a b AGGREGATE SUM"), api.Cmd{Name: name, Keys: line("d a b"), Weights: []int64{1, 1}, Agg: 1}},
			right{line(name + " d 2 a b WEIGHTS 2 -1 AGGREGATE MIN"), api.Cmd{Name: name, Keys: line("d a b"), Weights: []int64{2, -1}, Agg: 2}},
			right{line(name + " d 1 a WEIGHTS 0 AGGREGATE MAX"), api.Cmd{Name: name, Keys: line("d a"), Weights: []int64{0}, Agg: 3}},
			right{line(name + " d 2 a b WEIGHTS -9223372036854775808 9223372036854775807"), api.Cmd{Name: name, Keys: line("d a b"), Weights: []int64{math.MinInt64, math.MaxInt64}, Agg: 1}},
			right{join(line(name+" d 60"), many("a", 60)), api.Cmd{Name: name, Keys: join(line("d"), many("a", 60)), Weights: slices.Repeat([]int64{1}, 60), Agg: 1}},
			right{join(line(name+" d 59"), many("a", 59), line("AGGREGATE MAX")), api.Cmd{Name: name, Keys: join(line("d"), many("a", 59)), Weights: slices.Repeat([]int64{1}, 59), Agg: 3}},
			right{join(line(name+" d 30"), many("a", 30), line("WEIGHTS"), many("7", 30)), api.Cmd{Name: name, Keys: join(line("d"), many("a", 30)), Weights: slices.Repeat([]int64{7}, 30), Agg: 1}},
			right{join(line(name+" d 29"), many("a", 29), line("WEIGHTS"), many("7", 29), line("AGGREGATE MIN")), api.Cmd{Name: name, Keys: join(line("d"), many("a", 29)), Weights: slices.Repeat([]int64{7}, 29), Agg: 2}},
		)
	}
	return append(l,
		right{line("ZDIFFSTORE d 1 a"), api.Cmd{Name: "ZDIFFSTORE", Keys: line("d a")}},
		right{line("ZDIFFSTORE d 3 a a d"), api.Cmd{Name: "ZDIFFSTORE", Keys: line("d a a d")}},
		right{join(line("ZDIFFSTORE d 60"), many("a", 60)), api.Cmd{Name: "ZDIFFSTORE", Keys: join(line("d"), many("a", 60))}},
		right{join(line("ZADD k"), slices.Repeat(line("5 a"), 31)), api.Cmd{Name: "ZADD", Keys: line("k"), Entries: slices.Repeat([]api.Entry{{Member: "a", Score: 5}}, 31)}},
		right{join(line("ZADD k"), many("CH", 60), line("5 a")), api.Cmd{Name: "ZADD", Keys: line("k"), Flags: api.Add{CH: true}, Entries: []api.Entry{{Member: "a", Score: 5}}}},
	)
}

// P17.1: all fields of every name, with the fewest and the most arguments that can be; the model tells the same.
func TestParseRight(t *testing.T) {
	told := map[string]bool{}
	for _, r := range rights() {
		check(t, r.args, r.want, api.OK)
		checkModel(t, r.args)
		told[r.want.Name] = true
	}
	for _, r := range rows() {
		if !told[r.name] {
			t.Errorf("no right %s is tried", r.name)
		}
	}
}

func isWord(s string) bool { return strings.ToUpper(s) == s && strings.ToLower(s) != s }

// P17.3: names and words are known in whatever case of letters, and the name is told in capitals.
func TestParseCases(t *testing.T) {
	for _, r := range rights() {
		for at, word := range r.args[:min(len(r.args), 12)] {
			if !isWord(word) {
				continue
			}
			for _, form := range cases(word) {
				args := slices.Clone(r.args)
				args[at] = form
				check(t, args, r.want, api.OK)
			}
		}
		small := slices.Clone(r.args)
		for at, word := range small {
			if isWord(word) {
				small[at] = strings.ToLower(word)
			}
		}
		check(t, small, r.want, api.OK)
	}
}

// P17.1: keys, members and patterns are told as they are, whatever they look like.
func TestParseAsItIs(t *testing.T) {
	for _, s := range []string{"", "NX", "nx", "incr", "MATCH", "WithScores", "weights", "AGGREGATE", "zadd", "Encoding", "5", "-1", "007", "*", "a b", "\x00", "\xff\xfe", "é", "\r\n", "[a", "(5", "-inf", strings.Repeat("é", 32)} {
		entries := []api.Entry{{Member: s, Score: 5}}
		check(t, []string{"ping", s}, api.Cmd{Name: "PING", Keys: []string{s}}, api.OK)
		check(t, []string{"del", s, s}, api.Cmd{Name: "DEL", Keys: []string{s, s}}, api.OK)
		check(t, []string{"object", "encoding", s}, api.Cmd{Name: "OBJECT", Keys: []string{s}}, api.OK)
		check(t, []string{"zadd", s, "5", s}, api.Cmd{Name: "ZADD", Keys: []string{s}, Entries: entries}, api.OK)
		check(t, []string{"zadd", s, "nx", "5", s, "5", s}, api.Cmd{Name: "ZADD", Keys: []string{s}, Flags: api.Add{NX: true}, Entries: append(entries, entries...)}, api.OK)
		check(t, []string{"zincrby", s, "5", s}, api.Cmd{Name: "ZINCRBY", Keys: []string{s}, Flags: api.Add{Incr: true}, Entries: entries}, api.OK)
		check(t, []string{"zrem", s, s}, api.Cmd{Name: "ZREM", Keys: []string{s}, Entries: []api.Entry{is(s)}}, api.OK)
		check(t, []string{"zrangebylex", s, "[" + s, "(" + s}, api.Cmd{Name: "ZRANGEBYLEX", Keys: []string{s}, Low: api.Edge{S: s}, High: api.Edge{S: s, Out: true}}, api.OK)
		check(t, []string{"zinterstore", s, "2", s, s, "weights", "1", "2"}, api.Cmd{Name: "ZINTERSTORE", Keys: []string{s, s, s}, Weights: []int64{1, 2}, Agg: 1}, api.OK)
		check(t, []string{"zdiffstore", s, "1", s}, api.Cmd{Name: "ZDIFFSTORE", Keys: []string{s, s}}, api.OK)
		check(t, []string{"scan", "3", "match", s}, api.Cmd{Name: "SCAN", Cursor: 3, Match: s}, api.OK)
		check(t, []string{"zscan", s, "3", "match", s}, api.Cmd{Name: "ZSCAN", Keys: []string{s}, Cursor: 3, Match: s}, api.OK)
	}
}

// P17.1: of no arguments, and of those whose first one is no name, ErrName, whatever is behind.
func TestParseNames(t *testing.T) {
	checkWrong(t, nil, api.ErrName)
	checkWrong(t, []string{}, api.ErrName)
	for _, s := range none() {
		for _, behind := range [][]string{nil, line("k"), line("k 5 a"), line("x"), {long(65)}, many("k", 63), many("k", 64), many("", 100)} {
			checkWrong(t, join([]string{s}, behind), api.ErrName)
		}
	}
}

// P17.1: fewer and more arguments than can be are told ahead of all that is wrong with them; as many as can be are not.
func TestParseArity(t *testing.T) {
	for _, r := range rows() {
		for n := range 70 {
			for _, word := range []string{"k", "5", "", "-1", "nx", long(65), long(513)} {
				args := join([]string{r.name}, many(word, n))
				switch _, e := command.Parse(args); {
				case n < r.least || n > r.most:
					checkWrong(t, args, api.ErrArity)
				case e == api.ErrArity && (r.name != "ZDIFFSTORE" || n < 63):
					t.Errorf("Parse(%q) tells ErrArity", short(args))
				}
			}
		}
	}
	for _, s := range []string{
		"ping a b", "del", "type", "type a b", "rename a", "rename a b c", "dbsize k", "flushall k", "scan", "scan 0 match a b", "scan 0 match a match b", "object", "object encoding", "object encoding k l",
		"zadd", "zadd k", "zadd k 5", "zadd k nx", "zincrby k 5", "zincrby k 5 a 6 b", "zrem k", "zscore k", "zscore k a b", "zrank k", "zrevrank k a b", "zcard", "zcard k l", "zrange k 0", "zrange k 0 1 withscores withscores", "zrange k 0 1 2 3",
		"zrangebyscore k 0", "zcount k 0", "zcount k 0 1 withscores", "zrangebylex k -", "zrangebylex k - + withscores", "zremrangebyrank k 0", "zremrangebyrank k 0 1 withscores", "zremrangebyscore k 0 1 withscores", "zpopmin", "zpopmin k 1 2", "zpopmax k 1 withscores",
		"zunionstore d 1", "zinterstore d", "zdiffstore d 1", "zscan k", "zscan k 0 match a b",
	} {
		checkWrong(t, line(s), api.ErrArity)
	}
	checkWrong(t, join(line("zadd k nx"), slices.Repeat(line("5 a"), 31)), api.ErrArity)
	checkWrong(t, join(line("del"), many("k", 64)), api.ErrArity)
	checkWrong(t, join(line("zunionstore d 60"), many("k", 60), line("aggregate sum")), api.ErrArity)
	checkWrong(t, join(line("zdiffstore d 60"), many("k", 62)), api.ErrArity)
}

// forms are how commands stand, each place by its kind: k a key, w PING's word, m a member, n a number, a one of at least 0, e an end of scores, l an end of members, u a cursor, p a pattern, digits a count; others are words.
func forms() []string {
	return []string{
		"PING w", "DEL k", "DEL k k k", "EXISTS k", "EXISTS k k k", "TYPE k", "RENAME k k", "SCAN u", "SCAN u MATCH p", "OBJECT ENCODING k",
		"ZADD k n m", "ZADD k n m n m n m", "ZINCRBY k n m", "ZREM k m", "ZREM k m m m", "ZSCORE k m", "ZRANK k m", "ZREVRANK k m", "ZCARD k",
		"ZRANGE k n n", "ZRANGE k n n WITHSCORES", "ZREVRANGE k n n", "ZREVRANGE k n n WITHSCORES", "ZRANGEBYSCORE k e e", "ZRANGEBYSCORE k e e WITHSCORES", "ZCOUNT k e e", "ZREMRANGEBYSCORE k e e",
		"ZRANGEBYLEX k l l", "ZREMRANGEBYRANK k n n", "ZPOPMIN k", "ZPOPMIN k a", "ZPOPMAX k", "ZPOPMAX k a",
		"ZUNIONSTORE k 2 k k", "ZUNIONSTORE k 2 k k WEIGHTS n n", "ZUNIONSTORE k 1 k AGGREGATE SUM", "ZUNIONSTORE k 3 k k k WEIGHTS n n n AGGREGATE MIN",
		"ZINTERSTORE k 2 k k", "ZINTERSTORE k 2 k k WEIGHTS n n", "ZINTERSTORE k 1 k AGGREGATE SUM", "ZINTERSTORE k 3 k k k WEIGHTS n n n AGGREGATE MAX",
		"ZDIFFSTORE k 1 k", "ZDIFFSTORE k 3 k k k", "ZSCAN k u", "ZSCAN k u MATCH p",
	}
}

// good are things of a kind.
func good(kind string) []string {
	switch kind {
	case "k", "w", "m", "p":
		return []string{"a", "", long(64), long(63), strings.Repeat("\xff", 64), "*"}
	case "n":
		return []string{"5", "0", "-1", "-9223372036854775808", "9223372036854775807"}
	case "a":
		return []string{"5", "0", "1", "9223372036854775807"}
	case "e":
		return []string{"5", "(5", "-inf", "+inf", "inf", "(-9223372036854775808", "-9223372036854775808", "9223372036854775807", "0", "(0", "-1"}
	case "l":
		return []string{"[a", "(a", "-", "+", "[", "(", "[-", "(+", "[[a", "[" + long(64), "(" + long(64), "[\xff"}
	case "u":
		return []string{"5", "0", "1", "4294967295", "2147483648", "4294967294"}
	}
	return []string{kind}
}

// noNumbers are no numbers.
func noNumbers() []string {
	return []string{"", "x", "-", "+", "+5", "05", "-05", "00", "-0", "+0", " 5", "5 ", "5x", "x5", "1.5", "1e3", "0x5", "1_000", "--5", "9223372036854775808", "-9223372036854775809", "99999999999999999999", "-99999999999999999999", "100000000000000000000000", long(65), "\xff", "５", "٣", "5\x00", "inf", "(5", "[5", "nan"}
}

// bad are what is none of a kind, and what is told of it.
func bad(kind string) ([]string, api.Errno) {
	switch kind {
	case "k", "w", "m", "p":
		return []string{long(65), long(66), long(512), long(1 << 16), strings.Repeat("é", 33), strings.Repeat("\xff", 65), strings.Repeat("*", 65)}, api.ErrSyntax
	case "n":
		return append(noNumbers(), "-inf", "5.", "NXX"), api.ErrNumber
	case "a":
		return append(noNumbers(), "-1", "-9223372036854775808"), api.ErrNumber
	case "e":
		l := []string{"(", "((5", "5)", "[", "(inf", "(-inf", "(+inf", "Inf", "INF", "-INF", "++inf", "infinity", "-", "(05", "(+5", "( 5", "(9223372036854775808", "a", "[a", "(a"}
		return append(slices.DeleteFunc(noNumbers(), func(s string) bool { return s == "inf" || s == "(5" }), l...), api.ErrEnds
	case "l":
		return []string{"", "a", "5", "--", "++", "-a", "+a", " [a", "-inf", "+inf", "inf", "{a", "]a", ")a", "\xff[a", long(65)}, api.ErrEnds
	case "u":
		return append(noNumbers(), "-1", "4294967296", "4294967297", "8589934592", "18446744073709551615", "18446744073709551616", "9223372036854775807", "-9223372036854775808", "MATCH"), api.ErrCursor
	}
	if strings.Trim(kind, "0123456789") == "" {
		return append(noNumbers(), "0", "-1", "61", "62", "100", "4294967297", "9223372036854775807", "-9223372036854775808"), api.ErrNumber
	}
	return []string{"", "FOO", kind + "S", kind[1:], kind + " ", " " + kind, "5", long(65), "\xff", kind + "\x00", "GET", "K", "IN"}, api.ErrSyntax
}

// filled is a form with a right thing at each place.
func filled(kinds []string) []string {
	var args []string
	for _, kind := range kinds {
		args = append(args, good(kind)[0])
	}
	return args
}

// P17.1: all that may stand at a place, and all that may not, of every name.
func TestParsePlaces(t *testing.T) {
	for _, form := range forms() {
		kinds := line(form)
		for at := 1; at < len(kinds); at++ {
			args := filled(kinds)
			for _, s := range good(kinds[at]) {
				args[at] = s
				if e := checkModel(t, args); e != api.OK {
					t.Errorf("the model tells %d of %q", e, short(args))
				}
			}
			wrong, e := bad(kinds[at])
			for _, s := range wrong {
				args[at] = s
				checkWrong(t, args, e)
				checkModel(t, args)
			}
		}
	}
}

// P17.1: where two are wrong what stands first is told. Of ZINCRBY a score and a member are left out.
func TestParseFirst(t *testing.T) {
	for _, form := range forms() {
		kinds := line(form)
		for first := 1; first < len(kinds); first++ {
			for second := first + 1; second < len(kinds); second++ {
				if kinds[0] == "ZINCRBY" && kinds[first] == "n" {
					continue
				}
				args := filled(kinds)
				wrong, e := bad(kinds[first])
				also, _ := bad(kinds[second])
				for n, s := range also {
					args[first], args[second] = wrong[n%len(wrong)], s
					checkWrong(t, args, e)
				}
				for n, s := range wrong {
					args[first], args[second] = s, also[n%len(also)]
					checkWrong(t, args, e)
				}
			}
		}
	}
}

// P17.1: written-out lines, the errors of which are those of what is looked at first.
func TestParseWrong(t *testing.T) {
	x := long(65)
	for _, c := range []struct {
		s string
		e api.Errno
	}{
		// Words that do not belong there, that lack what must follow, that come twice or in another order.
		{"scan 0 match", api.ErrSyntax}, {"scan 0 foo", api.ErrSyntax}, {"scan 0 foo a", api.ErrSyntax}, {"scan 0 a match", api.ErrSyntax}, {"scan match a", api.ErrCursor}, {"scan match a 0", api.ErrCursor}, {"scan 0 match " + x, api.ErrSyntax}, {"scan 0 withscores", api.ErrSyntax}, {"scan 0 matc a", api.ErrSyntax}, {"scan 0 matchh a", api.ErrSyntax},
		{"zscan k 0 match", api.ErrSyntax}, {"zscan k 0 foo", api.ErrSyntax}, {"zscan k 0 foo a", api.ErrSyntax}, {"zscan k match a", api.ErrCursor}, {"zscan 0 k", api.ErrCursor}, {"zscan k match a 0", api.ErrCursor},
		{"scan -1 foo", api.ErrCursor}, {"scan 4294967296 match", api.ErrCursor}, {"zscan k x foo", api.ErrCursor}, {"zscan " + x + " x foo", api.ErrSyntax},
		{"object foo k", api.ErrSyntax}, {"object k encoding", api.ErrSyntax}, {"object encoding " + x, api.ErrSyntax},
		{"zrange k 0 1 with", api.ErrSyntax}, {"zrange k 0 withscores 1", api.ErrNumber}, {"zrange k withscores 0 1", api.ErrNumber}, {"zrange k 0 1 2", api.ErrSyntax}, {"zrange k x 1 with", api.ErrNumber}, {"zrange k 1 x with", api.ErrNumber}, {"zrange " + x + " x 1 with", api.ErrSyntax},
		{"zrevrange k 0 1 scores", api.ErrSyntax}, {"zrangebyscore k 0 1 limit", api.ErrSyntax}, {"zrangebyscore k x 1 with", api.ErrEnds}, {"zrangebyscore k 1 x with", api.ErrEnds}, {"zrangebyscore " + x + " x x with", api.ErrSyntax}, {"zrangebyscore k 0 withscores", api.ErrEnds},
		{"zpopmin k withscores", api.ErrNumber}, {"zpopmax k -1", api.ErrNumber}, {"zpopmin " + x + " -1", api.ErrSyntax}, {"zincrby " + x + " x a", api.ErrSyntax}, {"zincrby k nx a", api.ErrNumber}, {"zincrby k a 5", api.ErrNumber}, {"zincrby k 5 " + x, api.ErrSyntax},
		{"ping " + x, api.ErrSyntax}, {"del k " + x, api.ErrSyntax}, {"rename " + x + " k", api.ErrSyntax}, {"rename k " + x, api.ErrSyntax}, {"zrem k a " + x, api.ErrSyntax},

		// ZADD: the key, the flags, the pairs, one with INCR, then pair by pair, the score first.
		{"zadd " + x + " x a", api.ErrSyntax}, {"zadd k nx xx x a", api.ErrSyntax}, {"zadd k nx gt x a", api.ErrSyntax}, {"zadd k gt lt 5 a", api.ErrSyntax}, {"zadd k lt nx 5 a", api.ErrSyntax}, {"zadd k nx xx gt lt", api.ErrSyntax},
		{"zadd k nx ch", api.ErrSyntax}, {"zadd k incr ch", api.ErrSyntax}, {"zadd k nx 5", api.ErrSyntax}, {"zadd k nx x", api.ErrSyntax}, {"zadd k 5 a 6", api.ErrSyntax}, {"zadd k x a y", api.ErrSyntax}, {"zadd k x y z", api.ErrSyntax},
		{"zadd k incr 5 a 6 b", api.ErrSyntax}, {"zadd k incr x a y b", api.ErrSyntax}, {"zadd k nx incr 5 a 6 b", api.ErrSyntax}, {"zadd k incr 5 a 6", api.ErrSyntax}, {"zadd k incr 5", api.ErrSyntax}, {"zadd k incr x a", api.ErrNumber}, {"zadd k incr 5 " + x, api.ErrSyntax},
		{"zadd k 5 " + x + " x b", api.ErrSyntax}, {"zadd k x " + x, api.ErrNumber}, {"zadd k 5 a x " + x, api.ErrNumber}, {"zadd k x a 5 " + x, api.ErrNumber}, {"zadd k 5 a 6 " + x, api.ErrSyntax}, {"zadd k 5 a x b 6 " + x, api.ErrNumber},
		{"zadd k 5 nx", api.OK}, {"zadd k 5 a nx", api.ErrSyntax}, {"zadd k 5 a nx 6 b", api.ErrSyntax}, {"zadd k 5 a nx b", api.ErrNumber}, {"zadd k foo 5 a", api.ErrSyntax}, {"zadd k foo 5 a 6", api.ErrNumber}, {"zadd k a 5", api.ErrNumber}, {"zadd k nx foo 5 a 6", api.ErrNumber},

		// ZUNIONSTORE and the like: the first key, the count, so many keys, these, so many weights, these, what is behind.
		{"zunionstore " + x + " x a", api.ErrSyntax}, {"zunionstore d x " + x, api.ErrNumber}, {"zunionstore d 61 a", api.ErrNumber}, {"zunionstore d 60 a", api.ErrSyntax}, {"zunionstore d 0 " + x, api.ErrNumber}, {"zunionstore d -1 a", api.ErrNumber}, {"zunionstore d 2 a", api.ErrSyntax}, {"zunionstore d 1 a b", api.ErrSyntax}, {"zunionstore d a 1", api.ErrNumber},
		{"zunionstore d 2 a " + x + " weights x y", api.ErrSyntax}, {"zunionstore d 1 " + x + " weights x", api.ErrSyntax}, {"zunionstore d 4 a b weights 1", api.OK}, {"zunionstore d 2 a weights", api.OK}, {"zunionstore d 2 a weights 1", api.ErrSyntax},
		{"zunionstore d 2 a b weights", api.ErrSyntax}, {"zunionstore d 2 a b weights 1", api.ErrSyntax}, {"zunionstore d 2 a b weights x", api.ErrSyntax}, {"zunionstore d 2 a b weights 1 x", api.ErrNumber}, {"zunionstore d 2 a b weights x foo", api.ErrNumber}, {"zunionstore d 2 a b weights 1 2 3", api.ErrSyntax}, {"zunionstore d 2 a b weights x 2 3", api.ErrNumber}, {"zunionstore d 2 a b weights 1 2 foo", api.ErrSyntax}, {"zunionstore d 2 a b 1 2", api.ErrSyntax},
		{"zunionstore d 1 a weights 1 weights 1", api.ErrSyntax}, {"zunionstore d 1 a weights weights 1", api.ErrNumber}, {"zunionstore d 1 a weights 1 weights x", api.ErrSyntax}, {"zunionstore d 1 a weights x aggregate avg", api.ErrNumber}, {"zunionstore d 2 a b weights 1 aggregate min", api.ErrNumber},
		{"zunionstore d 1 a aggregate", api.ErrSyntax}, {"zunionstore d 1 a aggregate avg", api.ErrSyntax}, {"zunionstore d 1 a aggregate 1", api.ErrSyntax}, {"zunionstore d 1 a aggregate sum min", api.ErrSyntax}, {"zunionstore d 1 a aggregate sum aggregate sum", api.ErrSyntax}, {"zunionstore d 1 a aggregate aggregate sum", api.ErrSyntax}, {"zunionstore d 1 a sum", api.ErrSyntax},
		{"zunionstore d 1 a aggregate sum weights 1", api.ErrSyntax}, {"zunionstore d 1 a aggregate sum weights x", api.ErrSyntax}, {"zunionstore d 1 a weights 1 aggregate", api.ErrSyntax}, {"zunionstore d 1 a weights 1 aggregate sum max", api.ErrSyntax}, {"zunionstore d 1 a weights 1 sum", api.ErrSyntax}, {"zunionstore d 1 a withscores", api.ErrSyntax},
		{"zdiffstore d 1 a weights 1", api.ErrSyntax}, {"zdiffstore d 1 a aggregate sum", api.ErrSyntax}, {"zdiffstore d 1 a b", api.ErrSyntax}, {"zdiffstore d 3 a b", api.ErrSyntax}, {"zdiffstore d 0 a", api.ErrNumber}, {"zdiffstore d 61 a b", api.ErrNumber}, {"zdiffstore d 60 a b", api.ErrSyntax}, {"zdiffstore " + x + " x a", api.ErrSyntax}, {"zdiffstore d 2 a weights", api.OK},
	} {
		for _, s := range []string{c.s, strings.Replace(c.s, "zunionstore", "ZinterStore", 1), strings.Replace(c.s, "zscan ", "ZScan ", 1)} {
			args := line(s)
			if e := checkModel(t, args); e != c.e {
				t.Errorf("the model tells %d of %q, not %d", e, short(args), c.e)
			}
			if c.e != api.OK {
				checkWrong(t, args, c.e)
			}
		}
	}
}

// P17.1: counts from below 1 to above 60, with fewer, as many and more keys behind them.
func TestParseCounts(t *testing.T) {
	for _, name := range []string{"ZUNIONSTORE", "ZINTERSTORE", "ZDIFFSTORE"} {
		for count := -2; count < 70; count++ {
			for n := 1; n <= 60; n++ {
				args := join([]string{name, "d", strconv.Itoa(count)}, many("a", n))
				want := api.OK
				switch {
				case count < 1 || count > 60:
					want = api.ErrNumber
				case count != n:
					want = api.ErrSyntax
				}
				if e := checkModel(t, args); e != want {
					t.Errorf("the model tells %d of %s, count %d, %d keys", e, name, count, n)
				}
			}
		}
	}
	checkWrong(t, join(line("zunionstore d 61"), many("a", 61)), api.ErrNumber)
	checkWrong(t, join(line("zunionstore d 60"), many("a", 61)), api.ErrSyntax)
	checkWrong(t, join(line("zinterstore d 61"), many("a", 61)), api.ErrNumber)
	checkWrong(t, join(line("zinterstore d 60"), many("a", 61)), api.ErrSyntax)
}

// P17.1: ZADD with all sets of flags, in some orders and cases, some of them twice.
func TestParseFlags(t *testing.T) {
	six := []string{"NX", "XX", "GT", "LT", "CH", "INCR"}
	r := rand.New(rand.NewPCG(17, 1))
	for n := range 64 {
		var words []string
		for at, word := range six {
			if n>>at&1 == 1 {
				words = append(words, word)
			}
		}
		for range 10 {
			l := append(slices.Clone(words), words[:r.IntN(len(words)+1)]...)
			r.Shuffle(len(l), func(a, b int) { l[a], l[b] = l[b], l[a] })
			for at, word := range l {
				forms := cases(word)
				l[at] = forms[r.IntN(len(forms))]
			}
			for _, pairs := range []string{"5 a", "5 a 6 b", "", "5", "5 a 6", "x a", "x a 6 b", "5 " + long(65), "5 a nx"} {
				if args := join(line("zadd k"), l, line(pairs)); len(args) > 3 {
					checkModel(t, args)
				}
			}
			f := api.Add{NX: n&1 != 0, XX: n&2 != 0, GT: n&4 != 0, LT: n&8 != 0, CH: n&16 != 0, Incr: n&32 != 0}
			args := join(line("zadd k"), l, line("5 a"))
			if f.NX && (f.XX || f.GT || f.LT) || f.GT && f.LT {
				checkWrong(t, args, api.ErrSyntax)
			} else {
				check(t, args, api.Cmd{Name: "ZADD", Keys: line("k"), Flags: f, Entries: []api.Entry{{Member: "a", Score: 5}}}, api.OK)
			}
		}
	}
	// What is none of the six is a score.
	for _, s := range []string{"NXX", "N", "nx ", "INC", "INCRBY", "\u0131ncr", "L\u0166"} {
		checkWrong(t, []string{"zadd", "k", s, "a"}, api.ErrNumber)
		checkWrong(t, []string{"zadd", "k", s, "5", "a"}, api.ErrSyntax)
		checkWrong(t, []string{"zadd", "k", "ch", s, "5", "a", "b"}, api.ErrNumber)
	}
}

// open tells whether the document leaves more than one answer: of ZINCRBY with a score and a member that are wrong, of a ZDIFFSTORE of 64 arguments.
func open(args []string) bool {
	switch name := strings.ToUpper(args[0]); {
	case name == "ZINCRBY" && len(args) == 4:
		return len(args[3]) > 64
	case name == "ZDIFFSTORE":
		return len(args) == 64
	}
	return false
}

// P17.1: what is made of words at random.
func TestParseRandom(t *testing.T) {
	words := append(line("k a b 0 1 2 3 -1 5 60 61 x 007 (5 ( -inf +inf inf [a (a - + 4294967295 4294967296 match MATCH Match * a* withscores WithScores weights WEIGHTS sum min MAX avg NX xx gt Lt ch incr INCR encoding zadd foo"), "", " ", long(64), long(65), "\xff")
	r := rand.New(rand.NewPCG(17, 2))
	all := rows()
	rights := 0
	for range 100000 {
		name := all[r.IntN(len(all))]
		forms := cases(name.name)
		args := []string{forms[r.IntN(len(forms))]}
		for range name.least - 1 + r.IntN(min(name.most-name.least, 6)+3) {
			args = append(args, words[r.IntN(len(words))])
		}
		if open(args) {
			continue
		}
		if checkModel(t, args) == api.OK {
			rights++
		}
	}
	if rights < 5000 {
		t.Errorf("only %d of them are right", rights)
	}
}

// P17.1: right commands of which a word is another one, is there twice, or is not there.
func TestParseChanged(t *testing.T) {
	words := append(line("k 0 -1 61 x (5 [a - 4294967296 match a* withscores weights aggregate min nx incr encoding del"), "", long(65))
	for _, r := range rights() {
		if len(r.args) > 20 {
			continue
		}
		for at := range len(r.args) + 1 {
			var lists [][]string
			for _, word := range words {
				lists = append(lists, slices.Insert(slices.Clone(r.args), at, word))
				if at < len(r.args) {
					args := slices.Clone(r.args)
					args[at] = word
					lists = append(lists, args)
				}
			}
			if at < len(r.args) {
				lists = append(lists, slices.Delete(slices.Clone(r.args), at, at+1), slices.Insert(slices.Clone(r.args), at, r.args[at]))
			}
			for _, args := range lists {
				if len(args) > 0 && !open(args) {
					checkModel(t, args)
				}
			}
		}
	}
}

// P17.2, P17.3: names are known in whatever case of letters; so is whether they write.
func TestNames(t *testing.T) {
	for _, r := range rows() {
		for _, form := range cases(r.name) {
			if !command.Known(form) {
				t.Errorf("%s is not known", form)
			}
			if command.IsWrite(form) != r.writes {
				t.Errorf("IsWrite(%q) is %t", form, !r.writes)
			}
			if _, e := command.Parse([]string{form}); e == api.ErrName {
				t.Errorf("Parse of %s tells ErrName", form)
			}
		}
	}
	for _, s := range none() {
		if command.Known(s) || command.IsWrite(s) {
			t.Errorf("%.40q is known: %t, writes: %t", s, command.Known(s), command.IsWrite(s))
		}
	}
}

// P17.2, P17.3: a name of which a byte is another one, is there too much, or is not there, is none, unless it is a letter in the other case.
func TestNamesChanged(t *testing.T) {
	names := map[string]bool{}
	for _, r := range rows() {
		names[r.name] = r.writes
	}
	for _, r := range rows() {
		for at := range len(r.name) + 1 {
			for b := range 256 {
				one := string([]byte{byte(b)})
				checkName(t, names, r.name[:at]+one+r.name[at:])
				if at < len(r.name) {
					checkName(t, names, r.name[:at]+one+r.name[at+1:])
				}
			}
			checkName(t, names, r.name[:at])
			checkName(t, names, r.name[at:])
		}
	}
	for b := range rune(0x3000) {
		checkName(t, names, "ZRAN"+string(b))
		checkName(t, names, string(b)+"el")
	}
}

// checkName makes capitals byte by byte.
func checkName(t *testing.T, names map[string]bool, s string) {
	t.Helper()
	capitals := []byte(s)
	for at, b := range capitals {
		if 'a' <= b && b <= 'z' {
			capitals[at] = b - 32
		}
	}
	writes, known := names[string(capitals)]
	if command.Known(s) != known || command.IsWrite(s) != writes {
		t.Errorf("%q is known: %t, writes: %t", s, !known, command.IsWrite(s))
	}
	if _, e := command.Parse([]string{s}); (e == api.ErrName) == known {
		t.Errorf("Parse of %q tells %d", s, e)
	}
}

// P17.2: the text of each error.
func TestText(t *testing.T) {
	texts := map[api.Errno]string{
		api.OK:          "",
		api.ErrName:     "ERR unknown command",
		api.ErrArity:    "ERR wrong number of arguments",
		api.ErrSyntax:   "ERR syntax error",
		api.ErrNumber:   "ERR value is not an integer or out of range",
		api.ErrEnds:     "ERR min or max is not valid",
		api.ErrCursor:   "ERR invalid cursor",
		api.ErrOverflow: "ERR increment or result would overflow",
		api.ErrNoKey:    "ERR no such key",
		api.ErrMemory:   "OOM command not allowed",
		api.ErrFull:     "ERR too many keys or members",
		api.ErrProto:    "ERR Protocol error",
		api.ErrNil:      "ERR 1",
		api.ErrArg:      "ERR 2",
		api.ErrInt:      "ERR 10",
		api.ErrZset:     "ERR 100",
		api.ErrKey:      "ERR 140",
		api.ErrConn:     "ERR 190",
		-1:              "ERR -1",
		999:             "ERR 999",
		math.MaxInt64:   "ERR 9223372036854775807",
		math.MinInt64:   "ERR -9223372036854775808",
	}
	for e := api.Errno(-300); e < 1000; e++ {
		if _, is := texts[e]; !is {
			texts[e] = "ERR " + strconv.Itoa(int(e))
		}
	}
	for e, want := range texts {
		if s := command.Text(e); s != want {
			t.Errorf("Text(%d) is %q, not %q", e, s, want)
		}
	}
}

// P17.2: the levels of draws.
func TestLevel(t *testing.T) {
	for _, c := range []struct {
		draw uint32
		want int
	}{
		{0, 1}, {1, 1}, {2, 1}, {3, 1}, {4, 2}, {5, 1}, {6, 1}, {8, 2}, {12, 2}, {16, 3}, {20, 2}, {32, 3}, {48, 3}, {64, 4}, {80, 3}, {1 << 28, 15}, {1 << 29, 15}, {1 << 30, 16}, {1 << 31, 16}, {3 << 30, 16}, {math.MaxUint32, 1}, {math.MaxUint32 - 1, 1}, {math.MaxUint32 - 3, 2}, {math.MaxUint32 - 15, 3}, {0xdeadbeef, 1},
	} {
		if n := command.Level(c.draw); n != c.want {
			t.Errorf("Level(%d) is %d, not %d", c.draw, n, c.want)
		}
	}
	r := rand.New(rand.NewPCG(17, 3))
	for n := range 200000 {
		for _, draw := range []uint32{uint32(n), math.MaxUint32 - uint32(n), r.Uint32() << r.IntN(32)} {
			want := 1
			if draw != 0 {
				want += bits.TrailingZeros32(draw) / 2
			}
			if n := command.Level(draw); n != want {
				t.Fatalf("Level(%d) is %d, not %d", draw, n, want)
			}
		}
	}
}

// R3: Parse leaves its arguments, and what stands in their spare room, as they are, and does not read what stands there.
func TestArgumentsStay(t *testing.T) {
	lists := [][]string{nil, line("foo k"), line("zadd k x a"), line("zadd k 5"), line("zunionstore d 2 a"), line("zunionstore d 1 a weights"), line("scan 0 match"), line("object encoding")}
	for _, r := range rights() {
		lists = append(lists, r.args)
	}
	for _, args := range lists {
		room := append(slices.Clone(args), "spare", "5", "withscores", "room")
		want := slices.Clone(room)
		first, e := command.Parse(room[:len(args)])
		if !slices.Equal(room, want) {
			t.Errorf("behind Parse(%q) the arguments are %q", args, room)
		}
		again, also := command.Parse(slices.Clip(slices.Clone(args)))
		if e != also || !reflect.DeepEqual(bare(first), bare(again)) {
			t.Errorf("Parse(%q) hangs on the spare room: %+v, %d and %+v, %d", args, first, e, again, also)
		}
	}
}

// R3: what is told stays as it is when the arguments change, and what is told later does not hang on what was made of an earlier answer.
func TestAnswersAreNew(t *testing.T) {
	for _, r := range rights() {
		args := slices.Clone(r.args)
		kept, _ := command.Parse(args)
		changed, _ := command.Parse(args)
		for n := range args {
			args[n] = "changed"
		}
		keys, entries, weights := changed.Keys[:cap(changed.Keys)], changed.Entries[:cap(changed.Entries)], changed.Weights[:cap(changed.Weights)]
		for n := range keys {
			keys[n] = "changed"
		}
		for n := range entries {
			entries[n] = api.Entry{Member: "changed", Score: -1}
		}
		for n := range weights {
			weights[n] = -1
		}
		if !slices.Equal(args, many("changed", len(args))) {
			t.Errorf("the arguments %q have become %q", r.args, args)
		}
		if !reflect.DeepEqual(bare(kept), bare(r.want)) {
			t.Errorf("%+v has become %+v", r.want, kept)
		}
		check(t, r.args, r.want, api.OK)
	}
}

// R2, R4: the same call tells the same, whatever was called ahead of it, and beside an error nothing.
func TestNothingIsKept(t *testing.T) {
	all := rights()
	for n, r := range all {
		check(t, r.args, r.want, api.OK)
		checkWrong(t, append(slices.Clone(all[(n+7)%len(all)].args), many("k", 64)...), api.ErrArity)
		checkWrong(t, line("zunionstore d 2 a b weights 1 x"), api.ErrNumber)
		checkWrong(t, line("zrange k 5 x"), api.ErrNumber)
		checkWrong(t, line("zadd k ch 5 a x b"), api.ErrNumber)
		checkWrong(t, line("zrangebylex k [a b"), api.ErrEnds)
		checkWrong(t, line("zcount k 5 b"), api.ErrEnds)
		check(t, r.args, r.want, api.OK)
	}
}
