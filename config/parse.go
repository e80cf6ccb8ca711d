package config

import (
	"iter"
	"strings"

	"subway/api"
	"subway/digest"
	"subway/num"
	"subway/syntax"
)

// reading is a configuration, as far as its lines were read.
type reading struct {
	config api.Config
}

// kind is a kind of lines: how many words stand behind the first one, and how they are read.
type kind struct {
	many int
	read func(*reading, []string) bool
}

// Parse takes line by line, and holds what came with each against what a configuration may be: so the first one that is wrong is told.
func Parse(s string) (api.Config, api.Errno, int) {
	if len(s) > api.MaxConfig {
		return api.Config{}, api.ErrTooMany, 0
	}
	var r reading
	known, at := kinds(), 0
	for words, ends := range lines(s) {
		k, is := known[words[0]]
		if !ends || !is || (words[0] == wordTimes) != (at == 0) || !r.take(k, words[1:]) {
			return api.Config{}, api.ErrWord, at
		}
		at++
	}
	if at == 0 { // without a line there are no times
		return api.Config{}, api.ErrWord, 0
	}
	return r.config, api.OK, 0
}

// kinds are those of lines, by their first words.
func kinds() map[string]kind {
	return map[string]kind{
		wordTimes:  {4, (*reading).times},
		wordTenant: {3, (*reading).tenant},
		wordNet:    {1, (*reading).net},
		wordToken:  {3, (*reading).token},
	}
}

// lines tells the words of each line of a text, at least one, and whether it has an end: the last one may have none.
func lines(s string) iter.Seq2[[]string, bool] {
	return func(yield func([]string, bool) bool) {
		for rest := s; rest != ""; {
			one, behind, ends := strings.Cut(rest, "\n")
			if !yield(strings.Split(one, " "), ends) {
				return
			}
			rest = behind
		}
	}
}

// take reads what stands behind the first word of a line: false, if that says nothing, or what may not be, behind what was read.
func (r *reading) take(k kind, words []string) bool {
	return len(words) == k.many && k.read(r, words) && Right(r.config)
}

// times reads what stands behind that word, likewise tenant, net and token: false, if it says nothing. Whether it may be so, Right tells.
func (r *reading) times(words []string) bool {
	c := &r.config
	for i, to := range [...]*int64{&c.Wait, &c.Grace, &c.Idle, &c.Lease} {
		n, is := num.Parse(words[i])
		if !is {
			return false
		}
		*to = n
	}
	return true
}

func (r *reading) tenant(words []string) bool {
	names, is := few(words[1])
	visitors, too := few(words[2])
	r.config.Tenants = append(r.config.Tenants, api.Tenant{Name: words[0], Names: names, Visitors: visitors})
	return is && too
}

func (r *reading) net(words []string) bool {
	t := r.last()
	if t == nil || len(t.Tokens) > 0 { // nets stand ahead of tokens, so that a configuration has one text
		return false
	}
	n, is := syntax.Net(words[0])
	t.Nets = append(t.Nets, n)
	return is
}

func (r *reading) token(words []string) bool {
	t := r.last()
	if t == nil {
		return false
	}
	secret, is := digest.Unhex(words[1])
	until, too := num.Parse(words[2])
	t.Tokens = append(t.Tokens, api.Token{Name: words[0], Secret: string(secret), Until: until})
	return is && too
}

// last is the tenant that was read last; nil, if none was yet.
func (r *reading) last() *api.Tenant {
	if n := len(r.config.Tenants); n > 0 {
		return &r.config.Tenants[n-1]
	}
	return nil
}

// few is how many of something a tenant may have, by a word.
func few(s string) (int, bool) {
	n, is := num.Parse(s)
	if !quota(n) { // it may be more than an int
		return 0, false
	}
	return int(n), is
}
