package config

import (
	"math"

	"triune/api"
)

const (
	byteSize = 1 // how many bytes a small number has in an image
	wordSize = 2 // how many bytes other numbers have
)

// The most of fields that are 1 at least, where package api has no limit of theirs.
const (
	mostUnit    = 247
	mostGap     = 20
	mostTries   = 5
	mostStrikes = 20
)

// mostAt is the last place at which a point may be told.
const mostAt = 899

// field is a number of a configuration, or of a point: how many bytes it has in an image, from what to what it may be, and where it stands. Fields are listed in the order of an image, so that they are checked, laid and read by one list.
type field struct {
	name              string
	size, least, most int
	at                *int
}

// fieldsOf are the numbers of a configuration between its Units and its Key.
func fieldsOf(c *Config) []field {
	return []field{
		{"Gap", byteSize, 1, mostGap, &c.Gap},
		{"Wait", wordSize, 1, api.MostTicks, &c.Wait},
		{"Tries", byteSize, 1, mostTries, &c.Tries},
		{"Strikes", byteSize, 1, mostStrikes, &c.Strikes},
		{"Queue", byteSize, 1, api.MostQueue, &c.Queue},
		{"Idle", wordSize, 1, math.MaxUint16, &c.Idle},
	}
}

// pointFields are the numbers of a point; its Kinds, from the first to the last one, have no gap between them.
func pointFields(p *api.Point) []field {
	band, safe := math.MaxUint16, math.MaxUint16
	if p.Kind == api.Coil || p.Kind == api.Discrete {
		band, safe = 0, 1
	}
	return []field{
		{"Kind", byteSize, api.Holding, api.Discrete, &p.Kind},
		{"Addr", wordSize, 0, math.MaxUint16, &p.Addr},
		{"At", wordSize, 0, mostAt, &p.At},
		{"Band", wordSize, 0, band, &p.Band},
		{"Safe", wordSize, 0, safe, &p.Safe},
	}
}
