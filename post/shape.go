package post

import (
	"cmp"
	"slices"

	"postbag/api"
	"postbag/boxes"
)

// isInForm tells whether a state is in form. Here and below how many there are is asked ahead of what they are: it bounds all that is asked behind it.
func isInForm(s api.State) bool {
	return isNumber(s.NextValid) && isNumber(s.NextItem) && areBoxes(s) && areSubs(s) && isQueue(s)
}

func areBoxes(s api.State) bool {
	return len(s.Boxes) <= api.MaxBoxes && rises(s.Boxes, boxOrder) && haveOwnValids(s.Boxes) && all(s.Boxes, func(b api.Box) bool {
		return isBox(b) && b.Valid < s.NextValid && hasUser(s, b.User)
	})
}

func areSubs(s api.State) bool {
	return len(s.Subs) <= api.MaxBoxes && rises(s.Subs, subOrder) && all(s.Subs, func(sub api.Sub) bool {
		return isName(sub.Name) && hasUser(s, sub.User)
	})
}

func isQueue(s api.State) bool {
	return len(s.Queue) <= api.MaxQueue && rises(s.Queue, itemOrder) && all(s.Queue, func(item api.Item) bool {
		return isItem(item) && item.Id < s.NextItem && all(item.For, func(user int) bool { return hasUser(s, user) })
	})
}

func isBox(b api.Box) bool {
	return b.User >= 0 && b.User < api.MaxUsers && isName(b.Name) && b.Valid >= 1 && isNumber(b.Next) && !isOverfull(b) && rises(b.Messages, messageOrder) && all(b.Messages, func(m api.Message) bool {
		return isMessage(m) && m.Uid < b.Next
	})
}

func isMessage(m api.Message) bool {
	return m.Uid >= 1 && areFlags(m.Flags) && isMoment(m.Date) && isBody(m.Body)
}

func isItem(item api.Item) bool {
	return item.Id >= 1 && len(item.For) >= 1 && rises(item.For, cmp.Compare[int]) && len(item.From) <= maxFrom &&
		isMoment(item.Born) && isMoment(item.Due) && item.Tries >= 0 && item.Tries <= api.MaxTries && isBody(item.Body)
}

// haveOwnValids tells whether no two boxes have the same Valid.
func haveOwnValids(list []api.Box) bool {
	valids := make([]int, 0, len(list))
	for _, b := range list {
		valids = append(valids, b.Valid)
	}
	slices.Sort(valids)
	return rises(valids, cmp.Compare[int])
}

// isOverfull tells whether a box has more messages, or more bytes, than a box may have.
func isOverfull(b api.Box) bool {
	return len(b.Messages) > api.MaxMessages || Bytes(b) > api.MaxBoxBytes
}

func hasUser(s api.State, user int) bool { return Find(s, user, inbox) >= 0 }

func isName(text string) bool { return text != "" && nameOf(text) == text }

// nameOf is the name that a text is; "", which is no name, if it is none.
func nameOf(text string) string {
	name, _ := boxes.Name(text)
	return name
}

func isNumber(n int) bool { return n >= 1 && n <= api.MaxUid }

func isMoment(t int) bool { return t >= 0 && t <= api.MaxTime }

func areFlags(flags int) bool { return flags >= 0 && flags <= api.AllFlags }

func isBody(text string) bool { return len(text) <= api.MaxMessage }

// rises tells whether each of a list comes behind the one ahead of it.
func rises[T any](list []T, order func(a, b T) int) bool {
	for i := 1; i < len(list); i++ {
		if order(list[i-1], list[i]) >= 0 {
			return false
		}
	}
	return true
}

// all tells whether each of a list is so.
func all[T any](list []T, isSo func(T) bool) bool {
	for _, one := range list {
		if !isSo(one) {
			return false
		}
	}
	return true
}

// those are those of a list that are so, in order.
func those[T any](list []T, isSo func(T) bool) []T {
	var found []T
	for _, one := range list {
		if isSo(one) {
			found = append(found, one)
		}
	}
	return found
}

func boxOrder(a, b api.Box) int {
	return subOrder(api.Sub{User: a.User, Name: a.Name}, api.Sub{User: b.User, Name: b.Name})
}

func subOrder(a, b api.Sub) int {
	return cmp.Or(cmp.Compare(a.User, b.User), cmp.Compare(a.Name, b.Name))
}

func messageOrder(a, b api.Message) int { return cmp.Compare(a.Uid, b.Uid) }

func itemOrder(a, b api.Item) int { return cmp.Compare(a.Id, b.Id) }
