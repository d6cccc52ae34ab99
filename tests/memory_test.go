package tests

import (
	"slices"
	"testing"

	"loop.example/s01308/impl"
)

// guarded is a list with room behind its end, and a copy of all of it. What
// writes into the list, or appends to it in place, is found out.
type guarded struct {
	list  []string
	whole []string
	kept  []string
}

func guard(names []string) guarded {
	whole := append(slices.Clone(names), "spare1", "spare2", "spare3")
	return guarded{list: whole[:len(names)], whole: whole, kept: slices.Clone(whole)}
}

func (g guarded) check(t *testing.T, why string) {
	t.Helper()
	if !slices.Equal(g.whole, g.kept) {
		t.Errorf("%s: the argument became %q, it was %q", why, g.whole, g.kept)
	}
}

// spoil writes over all that a list reaches, up to its capacity.
func spoil(list []string) {
	for i := range list[:cap(list)] {
		list[:cap(list)][i] = "SPOILT"
	}
}

func listsToGuard() [][]string {
	lists := [][]string{
		nil, {"a"}, {"b"}, {"a", "b", "c"}, {"b", "d"}, {"c", "a", "b", "a"}, {"a", "", "b"}, {"z", "y", "X"},
		numberedNames("n", maxSet), numberedNames("n", maxSet+1),
		slices.Repeat([]string{"q", "p"}, maxList/2), numberedNames("n", maxList+1),
	}
	for _, wrong := range wrongSets() {
		lists = append(lists, wrong)
	}
	return lists
}

func TestListsOfOneArgumentStay(t *testing.T) {
	calls := map[string]func([]string) []string{
		"MakeSet": func(l []string) []string { s, _ := impl.MakeSet(l); return s },
		"IsSet":   func(l []string) []string { impl.IsSet(l); return nil },
		"FormatAsk": func(l []string) []string {
			impl.FormatAsk(impl.Ask{Client: "a", User: "b", Asked: l})
			return nil
		},
		"ValidRequest": func(l []string) []string {
			impl.ValidRequest(impl.Request{Client: "a", User: "b", Asked: l, Agreed: l})
			return nil
		},
	}
	for why, call := range calls {
		for _, names := range listsToGuard() {
			g := guard(names)
			answer := call(g.list)
			g.check(t, why)
			spoil(answer)
			g.check(t, why+", its answer written over")
			if again := call(g.list); slices.Contains(again, "SPOILT") {
				t.Errorf("%s keeps what it answered", why)
			}
		}
	}
}

func TestListsOfTwoArgumentsStay(t *testing.T) {
	calls := map[string]func(a, b []string) []string{
		"Union":  func(a, b []string) []string { s, _ := impl.Union(a, b); return s },
		"Meet":   impl.Meet,
		"Minus":  impl.Minus,
		"Within": func(a, b []string) []string { impl.Within(a, b); return nil },
	}
	for why, call := range calls {
		for _, left := range listsToGuard() {
			for _, right := range listsToGuard() {
				a, b := guard(left), guard(right)
				spoil(call(a.list, b.list))
				a.check(t, why+", left")
				b.check(t, why+", right")
				if slices.Contains(call(a.list, b.list), "SPOILT") {
					t.Errorf("%s keeps what it answered", why)
				}
			}
		}
	}
}

// An argument that is changed behind the call must not reach into the answer.
func TestAnswersStay(t *testing.T) {
	a, b := guard([]string{"a", "b", "c"}), guard([]string{"b", "d"})
	made, _ := impl.MakeSet(a.list)
	union, _ := impl.Union(a.list, b.list)
	alone, _ := impl.Union(a.list, nil)
	meet, minus := impl.Meet(a.list, b.list), impl.Minus(a.list, b.list)
	all := impl.Minus(a.list, nil)
	spoil(a.list)
	spoil(b.list)
	for why, list := range map[string][]string{
		"MakeSet": made, "Union": union, "Union with nothing": alone, "Meet": meet, "Minus": minus, "Minus nothing": all,
	} {
		if len(list) == 0 || slices.Contains(list, "SPOILT") {
			t.Errorf("%s shares memory with an argument: %q", why, list)
		}
	}
}

func TestParseAskAnswersNewMemory(t *testing.T) {
	const text = "client=a user=b level=1 ask=d,c"
	first, _ := impl.ParseAsk(text)
	spoil(first.Asked)
	if second, ok := impl.ParseAsk(text); !ok || !slices.Equal(second.Asked, []string{"c", "d"}) {
		t.Errorf("ParseAsk keeps what it answered: %+v, %v", second, ok)
	}
}
