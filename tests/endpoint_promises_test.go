package tests

import (
	"math/rand"
	"slices"
	"testing"

	"loop.example/s01308/impl"
)

// record is what was in force when a token was issued, and what became of it.
type record struct {
	scopes  []string
	expiry  int64
	revoked bool
}

// situation is what is in force, as far as the replies tell that it was taken.
type situation struct {
	clock    int64
	policy   string
	clients  map[string][]string
	consents map[[2]string][]string
	tokens   map[string]*record
}

func (s *situation) isActive(name string) bool {
	r := s.tokens[name]
	return r != nil && !r.revoked && s.clock < r.expiry
}

func (s *situation) take(t *testing.T, op impl.Op, reply impl.Reply) {
	t.Helper()
	if reply.Code != impl.ROK {
		return
	}
	list, _ := secondList(op.Text)
	switch op.Kind {
	case impl.KInstall:
		s.policy = op.Text
	case impl.KClient:
		s.clients[op.Name] = list
	case impl.KConsent:
		s.consents[[2]string{op.Name, op.Other}] = list
	case impl.KWithdraw:
		delete(s.consents, [2]string{op.Name, op.Other})
	case impl.KToken:
		s.issue(t, op, reply)
	case impl.KRevoke:
		s.tokens[op.Name].revoked = true
	case impl.KTick:
		s.clock += op.Num
	}
}

// issue holds a token against P13 and P14.
func (s *situation) issue(t *testing.T, op impl.Op, reply impl.Reply) {
	t.Helper()
	ask, ok := modelAsk(op.Text)
	registered, agreed := s.clients[ask.Client], s.consents[[2]string{ask.User, ask.Client}]
	if !ok || s.tokens[op.Name] != nil {
		t.Fatalf("%+v was issued a second time, or for no ask", op)
	}
	out := secondDecide(mustLoad(t, s.policy), impl.Request{
		Client: ask.Client, User: ask.User, Level: ask.Level, Now: s.clock, Asked: ask.Asked, Agreed: agreed,
	})
	want := common(out.Scopes, ask.Asked, registered, agreed)
	if out.Kind != impl.OutGrant || len(want) == 0 || !slices.Equal(reply.Scopes, want) || !isScopeSet(reply.Scopes) {
		t.Fatalf("%+v was issued with %q; the policy said %+v, and %q is left of it", op, reply.Scopes, out, want)
	}
	if reply.Num != s.clock+tokenLife {
		t.Fatalf("%+v at %d expires at %d", op, s.clock, reply.Num)
	}
	s.tokens[op.Name] = &record{scopes: slices.Clone(reply.Scopes), expiry: reply.Num}
}

// told holds what a look tells against what was issued.
func (s *situation) told(t *testing.T, name string, reply impl.Reply) {
	t.Helper()
	want := refused(impl.RUnknown)
	switch r := s.tokens[name]; {
	case !isName(name):
		want = refused(impl.RMalformed)
	case s.isActive(name):
		want = impl.Reply{Code: impl.RActive, Num: r.expiry, Scopes: r.scopes}
	case r != nil:
		want = refused(impl.RInactive)
	}
	if !sameReply(reply, want) {
		t.Fatalf("%q is told as %+v, want %+v", name, reply, want)
	}
}

// observed puts a look at each of the names behind each operation.
func observed(ops []impl.Op, names []string) []impl.Op {
	var out []impl.Op
	for _, op := range ops {
		out = append(out, op)
		for _, name := range names {
			out = append(out, impl.Op{Kind: impl.KLook, Name: name})
		}
	}
	return out
}

// P13 and P14, at every moment of a script: what is told as active, and that nothing
// else is.
func TestTokensAtEveryMoment(t *testing.T) {
	names := []string{"t0", "t1", "t2", "t3", "t4", "t5", "t6", "t7"}
	issued, active, ended := 0, 0, 0
	for _, ops := range randomScripts(125, 1200) {
		ops = ops[:min(len(ops), maxOps/(len(names)+1))]
		watched := observed(ops, names)
		replies := impl.Play(watched)
		if len(replies) != len(watched) {
			t.Fatalf("%d replies to %d operations", len(replies), len(watched))
		}
		s := situation{clients: map[string][]string{}, consents: map[[2]string][]string{}, tokens: map[string]*record{}}
		var own []impl.Reply
		for i, op := range watched {
			if i%(len(names)+1) == 0 {
				own = append(own, replies[i])
			}
			s.take(t, op, replies[i])
			if op.Kind == impl.KLook {
				s.told(t, op.Name, replies[i])
				active += map[int]int{impl.RActive: 1}[replies[i].Code]
				ended += map[int]int{impl.RInactive: 1}[replies[i].Code]
			}
		}
		issued += len(s.tokens)
		// A look changes nothing.
		if got := impl.Play(ops); !sameReplies(got, own) {
			t.Fatalf("Play(%+v)\n= %+v\nand with looks between %+v", ops, got, own)
		}
	}
	if issued < 1000 || active < 1000 || ended < 1000 {
		t.Errorf("the test looks at too little: %d issued, %d looks at active ones, %d at others", issued, active, ended)
	}
}

// P15: wherever policies with faults are put, all other replies stay.
func TestFaultyPoliciesAnywhere(t *testing.T) {
	random := rand.New(rand.NewSource(126))
	faulty := faultyPolicies()
	for _, ops := range randomScripts(127, 800) {
		ops = ops[:min(len(ops), maxOps/2)]
		want := impl.Play(ops)
		var more []impl.Op
		var places, codes []int
		for _, op := range ops {
			if random.Intn(3) == 0 {
				code := impl.FSize + random.Intn(impl.FType)
				text := faulty[code][random.Intn(len(faulty[code]))]
				more = append(more, impl.Op{Kind: impl.KInstall, Text: text})
				codes = append(codes, code)
			}
			places = append(places, len(more))
			more = append(more, op)
		}
		replies := impl.Play(more)
		var own []impl.Reply
		for i, reply := range replies {
			if slices.Contains(places, i) {
				own = append(own, reply)
				continue
			}
			if !sameReply(reply, impl.Reply{Code: impl.RBadPolicy, Num: int64(codes[0])}) {
				t.Fatalf("%+v gets %+v, want fault %d", more[i], reply, codes[0])
			}
			codes = codes[1:]
		}
		if !sameReplies(own, want) {
			t.Fatalf("with faulty policies %+v\nthe replies are %+v\nnot %+v", more, own, want)
		}
	}
}

// What is refused changes nothing: without it, all other replies stay.
func TestRefusedOperationsLeftOut(t *testing.T) {
	left := 0
	for _, ops := range randomScripts(128, 800) {
		var kept []impl.Op
		var want []impl.Reply
		for i, reply := range impl.Play(ops) {
			if reply.Code == impl.ROK {
				kept = append(kept, ops[i])
				want = append(want, reply)
			} else {
				left++
			}
		}
		if got := impl.Play(kept); !sameReplies(got, want) {
			t.Fatalf("Play(%+v)\n= %+v\nand with refused ones between %+v", kept, got, want)
		}
	}
	if left < 1000 {
		t.Errorf("only %d operations were refused", left)
	}
}

// A longer script begins with the replies of a shorter one.
func TestRepliesHangOnlyOnWhatIsAhead(t *testing.T) {
	for _, ops := range randomScripts(129, 60) {
		whole := impl.Play(ops)
		for n := range ops {
			if got := impl.Play(ops[:n]); !sameReplies(got, whole[:n]) {
				t.Fatalf("Play(%+v)\n= %+v\nand with more behind %+v", ops[:n], got, whole[:n])
			}
		}
	}
}
