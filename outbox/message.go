package outbox

import (
	"math"

	"tumbrel/api"
	"tumbrel/pack"
	"tumbrel/seal"
)

// The bounds of a message's numbers and of its name, how many items tell it, and which of them is the name.
const (
	mostNumber = math.MaxInt32
	mostName   = 200
	itemCount  = 6
	nameItem   = 3
)

// Formed tells if m is a message that may be told.
func Formed(m api.Message) bool {
	return m.Kind >= api.Do && m.Kind <= api.Undid &&
		inBounds(int64(m.Instance)) && inBounds(int64(m.Turn)) && inBounds(int64(m.Attempt)) &&
		len(m.Name) <= mostName && !(m.OK && isRequest(m.Kind))
}

// Encode answers m's bytes.
func Encode(m api.Message) ([]byte, api.Errno) {
	if !Formed(m) {
		return nil, api.ErrArg
	}
	payload, e := pack.Items(items(m))
	if e != api.OK {
		return nil, e
	}
	return seal.Seal(payload)
}

// Decode answers the message whose bytes b is.
func Decode(b []byte) (api.Message, api.Errno) {
	payload, size, e := seal.Open(b)
	if e != api.OK || size != len(b) {
		return api.Message{}, api.ErrForm
	}
	list, e := pack.Read(payload)
	if e != api.OK || !areMessage(list) {
		return api.Message{}, api.ErrForm
	}
	m := message(list)
	if !Formed(m) {
		return api.Message{}, api.ErrForm
	}
	return m, api.OK
}

// inBounds tells if a number may be an instance, a turn or an attempt.
func inBounds(n int64) bool {
	return n >= 0 && n <= mostNumber
}

// items are those that tell m.
func items(m api.Message) []pack.Item {
	ok := int64(0)
	if m.OK {
		ok = 1
	}
	return []pack.Item{
		{N: int64(m.Kind)},
		{N: int64(m.Instance)},
		{N: int64(m.Turn)},
		{Text: true, S: m.Name},
		{N: int64(m.Attempt)},
		{N: ok},
	}
}

// areMessage tells if items tell a message, be it formed or not: of numbers beyond the bounds none may be made one, as they could wrap round.
func areMessage(list []pack.Item) bool {
	if len(list) != itemCount {
		return false
	}
	for i, it := range list {
		if it.Text != (i == nameItem) || !inBounds(it.N) {
			return false
		}
	}
	return list[itemCount-1].N <= 1
}

// message is the one that items tell.
func message(list []pack.Item) api.Message {
	return api.Message{
		Kind:     int(list[0].N),
		Instance: int(list[1].N),
		Turn:     int(list[2].N),
		Name:     list[nameItem].S,
		Attempt:  int(list[4].N),
		OK:       list[5].N == 1,
	}
}
