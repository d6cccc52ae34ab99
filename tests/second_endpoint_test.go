package tests

import (
	"regexp"
	"slices"
	"strconv"
	"strings"

	"loop.example/s01308/impl"
)

// The limits of the endpoint, said here once more.
const (
	maxOps      = 400
	maxScript   = 60000
	maxClients  = 50
	maxConsents = 100
	maxLive     = 40
	tokenLife   = 1000
	maxTick     = 1000000
	maxClock    = 5000000
)

func sameReply(a, b impl.Reply) bool {
	return a.Code == b.Code && a.Num == b.Num && slices.Equal(a.Scopes, b.Scopes)
}

func sameReplies(a, b []impl.Reply) bool { return slices.EqualFunc(a, b, sameReply) }

func copyReplies(replies []impl.Reply) []impl.Reply {
	out := slices.Clone(replies)
	for i, r := range out {
		out[i].Scopes = slices.Clone(r.Scopes)
	}
	return out
}

func refused(code int) impl.Reply { return impl.Reply{Code: code} }

func done(num int64, scopes ...string) impl.Reply { return impl.Reply{Num: num, Scopes: scopes} }

// deciding says what a policy decides about a request.
type deciding func(t impl.Typed, r impl.Request) impl.Outcome

func runPlain(t impl.Typed, r impl.Request) impl.Outcome { return impl.Run(impl.Compile(t), r).Out }

func runOptimized(t impl.Typed, r impl.Request) impl.Outcome {
	return impl.Run(impl.Compile(impl.Optimize(t)), r).Out
}

// secondEndpoint keeps nothing but what was asked and what was replied, and finds
// all else out by looking back at what was not refused.
type secondEndpoint struct {
	ops     []impl.Op
	replies []impl.Reply
	decide  deciding
}

func secondPlay(ops []impl.Op, decide deciding) []impl.Reply {
	if len(ops) > maxOps {
		return nil
	}
	e := secondEndpoint{decide: decide}
	for _, op := range ops {
		reply := e.reply(op)
		e.ops, e.replies = append(e.ops, op), append(e.replies, reply)
	}
	return e.replies
}

// taken gives the places of what was taken of the kinds, the latest first.
func (e *secondEndpoint) taken(kinds ...int) []int {
	var places []int
	for i := len(e.ops) - 1; i >= 0; i-- {
		if e.replies[i].Code == impl.ROK && slices.Contains(kinds, e.ops[i].Kind) {
			places = append(places, i)
		}
	}
	return places
}

// clock is the time ahead of a place.
func (e *secondEndpoint) clock(place int) int64 {
	var sum int64
	for _, at := range e.taken(impl.KTick) {
		if at < place {
			sum += e.ops[at].Num
		}
	}
	return sum
}

func (e *secondEndpoint) now() int64 { return e.clock(len(e.ops)) }

func (e *secondEndpoint) client(name string) ([]string, bool) {
	for _, at := range e.taken(impl.KClient) {
		if e.ops[at].Name == name {
			return secondList(e.ops[at].Text)
		}
	}
	return nil, false
}

func (e *secondEndpoint) clients() int {
	var names []string
	for _, at := range e.taken(impl.KClient) {
		names = append(names, e.ops[at].Name)
	}
	return len(distinct(names))
}

func (e *secondEndpoint) consent(user, client string) ([]string, bool) {
	for _, at := range e.taken(impl.KConsent, impl.KWithdraw) {
		op := e.ops[at]
		if op.Name != user || op.Other != client {
			continue
		}
		if op.Kind == impl.KWithdraw {
			return nil, false
		}
		return secondList(op.Text)
	}
	return nil, false
}

func (e *secondEndpoint) consents() int {
	var pairs []string
	for _, at := range e.taken(impl.KConsent) {
		op := e.ops[at]
		if _, ok := e.consent(op.Name, op.Other); ok {
			pairs = append(pairs, op.Name+" "+op.Other)
		}
	}
	return len(distinct(pairs))
}

// issue is the place where a token of the name was issued, or -1.
func (e *secondEndpoint) issue(name string) int {
	for _, at := range e.taken(impl.KToken) {
		if e.ops[at].Name == name {
			return at
		}
	}
	return -1
}

func (e *secondEndpoint) isActive(issue int) bool {
	for _, at := range e.taken(impl.KRevoke) {
		if e.ops[at].Name == e.ops[issue].Name {
			return false
		}
	}
	return e.now()-e.clock(issue) < tokenLife
}

func (e *secondEndpoint) live() int {
	n := 0
	for _, at := range e.taken(impl.KToken) {
		if e.isActive(at) {
			n++
		}
	}
	return n
}

func secondList(text string) ([]string, bool) {
	if text == "" {
		return nil, true
	}
	set, code := modelMakeSet(strings.Split(text, ","))
	return set, code == impl.SetOK
}

// common gives what stands in all of the sets.
func common(first []string, others ...[]string) []string {
	var out []string
	for _, name := range first {
		lacks := func(set []string) bool { return !slices.Contains(set, name) }
		if !slices.ContainsFunc(others, lacks) {
			out = append(out, name)
		}
	}
	return out
}

func (e *secondEndpoint) reply(op impl.Op) impl.Reply {
	switch op.Kind {
	case impl.KInstall:
		_, fault := impl.Load(op.Text)
		if fault.Code != impl.FNone {
			return impl.Reply{Code: impl.RBadPolicy, Num: int64(fault.Code)}
		}
		return done(0)
	case impl.KClient, impl.KConsent, impl.KWithdraw:
		return e.replyOfRegistry(op)
	case impl.KToken:
		return e.replyOfIssue(op)
	case impl.KLook, impl.KRevoke:
		return e.replyOfToken(op)
	case impl.KTick:
		if op.Num < 0 || op.Num > maxTick || op.Num > maxClock-e.now() {
			return refused(impl.RTick)
		}
		return done(e.now() + op.Num)
	}
	return refused(impl.RMalformed)
}

func (e *secondEndpoint) replyOfRegistry(op impl.Op) impl.Reply {
	set, isList := secondList(op.Text)
	_, hasClient := e.client(op.Name)
	_, hasOther := e.client(op.Other)
	_, hasConsent := e.consent(op.Name, op.Other)
	switch {
	case !isName(op.Name), op.Kind != impl.KClient && !isName(op.Other), op.Kind != impl.KWithdraw && !isList:
		return refused(impl.RMalformed)
	case op.Kind == impl.KWithdraw && !hasConsent:
		return refused(impl.RUnknown)
	case op.Kind == impl.KWithdraw:
		return done(0)
	case op.Kind == impl.KConsent && !hasOther:
		return refused(impl.RClient)
	case op.Kind == impl.KClient && !hasClient && e.clients() == maxClients,
		op.Kind == impl.KConsent && !hasConsent && e.consents() == maxConsents:
		return refused(impl.RFullReg)
	}
	return done(int64(len(set)))
}

func (e *secondEndpoint) replyOfIssue(op impl.Op) impl.Reply {
	ask, isAsk := modelAsk(op.Text)
	policies := e.taken(impl.KInstall)
	registered, hasClient := e.client(ask.Client)
	switch {
	case !isAsk || !isName(op.Name):
		return refused(impl.RMalformed)
	case len(policies) == 0:
		return refused(impl.RNoPolicy)
	case e.issue(op.Name) >= 0:
		return refused(impl.RReused)
	case e.live() == maxLive:
		return refused(impl.RFull)
	case !hasClient:
		return refused(impl.RClient)
	}
	typed, _ := impl.Load(e.ops[policies[0]].Text)
	agreed, _ := e.consent(ask.User, ask.Client)
	out := e.decide(typed, impl.Request{
		Client: ask.Client, User: ask.User, Level: ask.Level, Now: e.now(), Asked: ask.Asked, Agreed: agreed,
	})
	if out.Kind == impl.OutError {
		return impl.Reply{Code: impl.RError, Num: int64(out.Code)}
	}
	scopes := common(out.Scopes, ask.Asked, registered, agreed)
	switch {
	case out.Kind == impl.OutDeny:
		return refused(impl.RDenied)
	case len(scopes) == 0:
		return refused(impl.RNothing)
	}
	return done(e.now()+tokenLife, scopes...)
}

func (e *secondEndpoint) replyOfToken(op impl.Op) impl.Reply {
	issue := e.issue(op.Name)
	switch {
	case !isName(op.Name):
		return refused(impl.RMalformed)
	case issue < 0:
		return refused(impl.RUnknown)
	case !e.isActive(issue):
		return refused(impl.RInactive)
	case op.Kind == impl.KRevoke:
		return done(0)
	}
	told := e.replies[issue]
	return impl.Reply{Code: impl.RActive, Num: told.Num, Scopes: told.Scopes}
}

// parts are, for each word of a script, how many parts its line has with the word;
// the last one may hold spaces.
var parts = map[string]int{
	"policy": 2, "client": 3, "consent": 4, "withdraw": 3, "token": 3, "look": 2, "revoke": 2, "tick": 2,
}

var tickForm = regexp.MustCompile(`\A[0-9]{1,12}\z`)

// secondOp reads a line once more: cut into its parts, with empty ones behind.
func secondOp(line string) impl.Op {
	word := strings.SplitN(line, " ", 2)[0]
	p := append(strings.SplitN(line, " ", max(parts[word], 1)), "", "", "")
	switch word {
	case "policy":
		return impl.Op{Kind: impl.KInstall, Text: p[1]}
	case "client":
		return impl.Op{Kind: impl.KClient, Name: p[1], Text: p[2]}
	case "consent":
		return impl.Op{Kind: impl.KConsent, Name: p[1], Other: p[2], Text: p[3]}
	case "withdraw":
		return impl.Op{Kind: impl.KWithdraw, Name: p[1], Other: p[2]}
	case "token":
		return impl.Op{Kind: impl.KToken, Name: p[1], Text: p[2]}
	case "look":
		return impl.Op{Kind: impl.KLook, Name: p[1]}
	case "revoke":
		return impl.Op{Kind: impl.KRevoke, Name: p[1]}
	case "tick":
		if !tickForm.MatchString(p[1]) {
			return impl.Op{Kind: impl.KTick, Num: -1}
		}
		num, _ := strconv.ParseInt(p[1], 10, 64)
		return impl.Op{Kind: impl.KTick, Num: num}
	}
	return impl.Op{}
}

func secondParse(text string) ([]impl.Op, bool) {
	whole := text
	if whole != "" && !strings.HasSuffix(whole, "\n") {
		whole += "\n"
	}
	if len(text) > maxScript || strings.Count(whole, "\n") > maxOps {
		return nil, false
	}
	var ops []impl.Op
	for whole != "" {
		at := strings.IndexByte(whole, '\n')
		ops = append(ops, secondOp(whole[:at]))
		whole = whole[at+1:]
	}
	return ops, true
}

func secondLine(r impl.Reply) string {
	list := ""
	for i, name := range r.Scopes {
		if i > 0 {
			list += ","
		}
		list += name
	}
	return strconv.Itoa(r.Code) + " " + strconv.FormatInt(r.Num, 10) + " " + list
}
